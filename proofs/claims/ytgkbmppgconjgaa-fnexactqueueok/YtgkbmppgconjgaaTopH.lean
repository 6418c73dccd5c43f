/- Whether a topology is right, by the specification: the two loops. -/
import Derived.Test.YtgkbmppgconjgaaTopG
namespace Go.Proofs.Ytgkbmppgconjgaa
open Go.ChangeShapes Go.WideShapes Go.ChangeAt Go.RowKit

end Go.Proofs.Ytgkbmppgconjgaa
