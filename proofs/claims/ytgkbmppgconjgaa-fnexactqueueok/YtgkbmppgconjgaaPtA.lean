/- Points and profiles: the laws' own copies and looks. -/
import Derived.Test.YtgkbmppgconjgaaTopD
namespace Go.Proofs.Ytgkbmppgconjgaa
open Go.ChangeShapes Go.WideShapes Go.ChangeAt Go.RowKit


end Go.Proofs.Ytgkbmppgconjgaa
