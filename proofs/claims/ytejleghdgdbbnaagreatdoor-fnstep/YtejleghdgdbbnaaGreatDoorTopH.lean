/- Whether a topology is right, by the specification: the two loops. -/
import Derived.Test.YtejleghdgdbbnaaGreatDoorTopG
namespace Go.Proofs.YtejleghdgdbbnaaGreatDoor
open Go.ChangeShapes Go.WideShapes Go.ChangeAt Go.RowKit

end Go.Proofs.YtejleghdgdbbnaaGreatDoor
