/- The text of a command: what it is; the specification's. -/
import Derived.Test.YtejleghdgdbbnaaDoorCmS
import Derived.Test.YtejleghdgdbbnaaDoorCmC
import Derived.Test.YtejleghdgdbbnaaDoorTxtA
namespace Go.Proofs.YtejleghdgdbbnaaDoor
open Go.ChangeShapes Go.WideShapes Go.ChangeAt Go.RowKit

/-- The words of the kinds. -/
def kws : List (List UInt8) := [[], [115, 117, 98, 109, 105, 116], [99, 97, 110, 99, 101, 108], [100, 111, 110, 101], [102, 97, 105, 108], [114, 101, 115, 117, 109, 101], [108, 105, 99], [103, 111]]
def kwV : List Value := [.string ⟨#[]⟩, .string ⟨#[115, 117, 98, 109, 105, 116]⟩, .string ⟨#[99, 97, 110, 99, 101, 108]⟩, .string ⟨#[100, 111, 110, 101]⟩, .string ⟨#[102, 97, 105, 108]⟩, .string ⟨#[114, 101, 115, 117, 109, 101]⟩, .string ⟨#[108, 105, 99]⟩, .string ⟨#[103, 111]⟩]
def kwL (s : Int) : List UInt8 := kws.getD s.toNat []
/-- The words of a job. -/
def jwL (j : Jb) : List (List UInt8) := [numL j.id, numL j.pr, numL j.nd, vtL j.na j.nb j.nc, vtL j.la j.lb j.lc, numL j.wl, numL j.lv]
/-- The words of a command. -/
def cwL (s : Int) (j : Jb) (n a b c : Int) : List (List UInt8) := if s = 1 then kwL s :: jwL j else if s = 6 then [kwL s, vtL a b c] else [kwL s, numL n]
/-- The text of a command. -/
def ctL (s : Int) (j : Jb) (n a b c : Int) : List UInt8 := bif cmdB s j n a b c then Lib.join (cwL s j n a b c) [32] else []

set_option maxHeartbeats 1000000 in
theorem l08Words_c (w : World) : Calls Tryd.prog 78 #[] w fun e w' => ∃ g, e = .returned (.slice (some ⟨g, 0, none⟩) 8 8) ∧ w.heap.size ≤ g ∧ Row w' g kwV ∧ Below w.heap.size w w' := by
  go_enter Tryd.func78, Tryd.ntmps78
  go_wp2_with fail
  go_ret
  exact ⟨w.heap.size, rfl, Nat.le_refl _, row_fresh w kwV 9, low_alloc _ _⟩

end Go.Proofs.YtejleghdgdbbnaaDoor
