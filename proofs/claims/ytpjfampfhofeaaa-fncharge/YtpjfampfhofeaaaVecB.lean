/- pairwise at each function of two numbers that it is handed. -/
import Derived.Test.YtpjfampfhofeaaaVecA
namespace Go.Proofs.Ytpjfampfhofeaaa
open Go.ChangeShapes Go.WideShapes Go.ChangeAt Go.RowKit

end Go.Proofs.Ytpjfampfhofeaaa
