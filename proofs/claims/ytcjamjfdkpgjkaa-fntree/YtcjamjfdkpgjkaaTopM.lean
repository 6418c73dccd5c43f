/- Topologies marked. -/
import Derived.Test.YtcjamjfdkpgjkaaTopD
namespace Go.Proofs.Ytcjamjfdkpgjkaa
open Go.ChangeShapes Go.WideShapes Go.ChangeAt Go.RowKit


end Go.Proofs.Ytcjamjfdkpgjkaa
