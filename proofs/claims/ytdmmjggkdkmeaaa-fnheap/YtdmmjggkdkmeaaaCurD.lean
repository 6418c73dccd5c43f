/- A vector of any kind; the cursor's beginning; two vectors. -/
import Derived.Test.YtdmmjggkdkmeaaaCurC
namespace Go.Proofs.Ytdmmjggkdkmeaaa
open Go.ChangeShapes Go.WideShapes Go.ChangeAt Go.RowKit

end Go.Proofs.Ytdmmjggkdkmeaaa
