/- From what a row lists of the library's table of powers of ten to what the contracts ask of the world. -/
import Derived.Test.YtccilaffmonbdaaDoorNumB
import Derived.ProofKit
import Derived.OpenShut
import Derived.LaidMore
import Derived.Lib.LaidTab
namespace Go.Proofs.YtccilaffmonbdaaDoor
open Go.ChangeShapes Go.WideShapes Go.ChangeAt Go.RowKit

theorem gTabType : (Tryd.prog.globals[2]?).map (·.type) = some 161 := by kernel_rfl
theorem cellsTab : Tryd.prog.cellsOf 161 = 20 := by kernel_rfl
theorem cellsElem : Tryd.prog.cellsOf 142 = 1 := by kernel_rfl

theorem tab_head {W : World} {r : List (String × DataW Unit)} (h : laidMet Tryd.prog (("internal/strconv.uint64pow10", Rows.laid_internal_strconv_uint64pow10) :: r) W) : Tab W := by
  have h2 : laidMet Tryd.prog (("internal/strconv.uint64pow10", Lib.tabData .u64 Lib.pow10Tab) :: r) W := h
  have hT := Lib.tabIs_of_head gTab gTabType Tryd.underlying161 Tryd.underlying142 cellsElem cellsTab h2
  exact ⟨hT, World.block_lt_of_cell? W _ (hT.cell gTab 0 (by decide))⟩
end Go.Proofs.YtccilaffmonbdaaDoor
