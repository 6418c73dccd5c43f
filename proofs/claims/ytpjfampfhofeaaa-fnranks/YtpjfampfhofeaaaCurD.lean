/- A vector of any kind; the cursor's beginning; two vectors. -/
import Derived.Test.YtpjfampfhofeaaaCurC
namespace Go.Proofs.Ytpjfampfhofeaaa
open Go.ChangeShapes Go.WideShapes Go.ChangeAt Go.RowKit

end Go.Proofs.Ytpjfampfhofeaaa
