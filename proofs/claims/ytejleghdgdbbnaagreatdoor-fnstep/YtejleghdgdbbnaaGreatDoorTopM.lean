/- Topologies marked. -/
import Derived.Test.YtejleghdgdbbnaaGreatDoorTopD
namespace Go.Proofs.YtejleghdgdbbnaaGreatDoor
open Go.ChangeShapes Go.WideShapes Go.ChangeAt Go.RowKit


end Go.Proofs.YtejleghdgdbbnaaGreatDoor
