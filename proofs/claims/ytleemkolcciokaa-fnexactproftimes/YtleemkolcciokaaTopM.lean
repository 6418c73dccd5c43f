/- Topologies marked. -/
import Derived.Test.YtleemkolcciokaaTopD
namespace Go.Proofs.Ytleemkolcciokaa
open Go.ChangeShapes Go.WideShapes Go.ChangeAt Go.RowKit


end Go.Proofs.Ytleemkolcciokaa
