/- A command in the laws: copied. -/
import Derived.Test.YtejleghdgdbbnaaGreatDoorCmC
import Derived.Test.YtejleghdgdbbnaaGreatDoorCmS
namespace Go.Proofs.YtejleghdgdbbnaaGreatDoor
theorem szJobC : (Tryz.prog.info? 26).map (·.size) = some 11 := by kernel_rfl
theorem szCmdC : (Tryz.prog.info? 28).map (·.size) = some 16 := by kernel_rfl
theorem szVecC : (Tryz.prog.info? 24).map (·.size) = some 3 := by kernel_rfl
open Go.ChangeShapes Go.WideShapes Go.ChangeAt Go.RowKit

end Go.Proofs.YtejleghdgdbbnaaGreatDoor
