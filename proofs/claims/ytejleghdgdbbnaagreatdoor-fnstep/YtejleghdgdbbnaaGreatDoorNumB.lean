/- The decimal text of a number: the program's. -/
import Derived.Test.YtejleghdgdbbnaaGreatDoorNumA
import Derived.Test.YtejleghdgdbbnaaGreatDoorShelf
import Derived.Lib.AppendIntMem
import Derived.WalkSmall
namespace Go.Proofs.YtejleghdgdbbnaaGreatDoor
open Go.ChangeShapes Go.WideShapes Go.ChangeAt Go.RowKit

/-- The library's table of powers of ten lies as its text lays it. -/
def Tab (w : World) : Prop := Lib.TabIs Tryz.prog w "internal/strconv.uint64pow10" .u64 Lib.pow10Tab ∧ 3 < w.heap.size

theorem gTab : Tryz.prog.globalNamed "internal/strconv.uint64pow10" = some 3 := by kernel_rfl

theorem Tab.on {w w' : World} (h : Tab w) (hb : Below w.heap.size w w') : Tab w' :=
  ⟨var?_below hb gTab h.2 h.1, Nat.lt_of_lt_of_le h.2 hb.size⟩

theorem implNumText_c (n : Int) (w : World) (ht : Tab w) :
    Calls Tryz.prog 15 #[.int .i64 n] w fun e w' => e = .returned (.string ⟨(numL n).toArray⟩) ∧ Below w.heap.size w w' := by
  have Ht : Hid (Tab w) := ht
  clear ht
  cases h : timB n
  · have Hn : Hid (timB n = _) := h
    clear h
    go_enter Tryz.func15, Tryz.ntmps15
    go_wp2_with fail
    refine (timeOk_c _ _).mono ?_
    rintro e w1 ⟨rfl, rfl⟩
    rw [Hn.out]
    go_wp2_with fail
    go_ret
    exact ⟨by rw [numL, Hn.out]; rfl, Below.refl _ _⟩
  · have Hn : Hid (timB n = _) := h
    obtain ⟨h0, h1⟩ := tim_yes h
    clear h
    go_enter Tryz.func15, Tryz.ntmps15
    go_wp2_with fail
    refine (timeOk_c _ _).mono ?_
    rintro e w1 ⟨rfl, rfl⟩
    rw [Hn.out]
    go_wp2_with fail
    refine (Tryz.strconv_Itoa n (by omega) (by omega) _ Ht.out.1).mono ?_
    rintro e w2 ⟨rfl, k, os, rfl⟩
    go_wp2_with fail
    go_ret
    refine ⟨?_, Lib.below_grow _ _ (Nat.le_refl _) _ _⟩
    rw [numL, Hn.out, Lib.itoa, if_neg (by omega)]
    rfl
end Go.Proofs.YtejleghdgdbbnaaGreatDoor
