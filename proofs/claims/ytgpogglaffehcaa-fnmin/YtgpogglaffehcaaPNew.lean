/- ProfNew: the specification and the program. -/
import Derived.Test.YtgpogglaffehcaaPrfB
import Derived.Test.YtgpogglaffehcaaPtB
namespace Go.Proofs.Ytgpogglaffehcaa
open Go.ChangeShapes Go.WideShapes Go.ChangeAt Go.RowKit

/-- One point, at 0. -/
def newR (a b c : Int) : List Nd := bif vokB a b c then [⟨0, a, b, c⟩] else []

set_option maxHeartbeats 1000000 in
theorem specProfNew_c (a b c : Int) (w : World) :
    Calls Try.prog 150 #[.agg #[.int .i64 a, .int .i64 b, .int .i64 c]] w (RetP w (newR a b c) (vokB a b c)) := by
  go_enter Try.func150, Try.ntmps150
  go_wp2_with fail
  generalize hV : (w.alloc (.cells #[.int .i64 a, .int .i64 b, .int .i64 c] 27)).alloc (.cells #[.slice none 0 0] 25) = V
  have HA : Hid (Row V w.heap.size [.int .i64 a, .int .i64 b, .int .i64 c]) := by subst hV; exact (row_fresh w [.int .i64 a, .int .i64 b, .int .i64 c] 27).below (low_alloc _ _)
  have HR : Hid (Row V (w.heap.size + 1) [.slice none 0 0]) := by
    subst hV
    have h := row_fresh (w.alloc (.cells #[.int .i64 a, .int .i64 b, .int .i64 c] 27)) [.slice none 0 0] 25
    rw [show (w.alloc (.cells #[.int .i64 a, .int .i64 b, .int .i64 c] 27)).heap.size = w.heap.size + 1 by simp [go_sem]] at h
    exact h
  have HV : Hid (Below w.heap.size w V) := by subst hV; show Below _ _ _; go_grown
  clear hV
  refine (specVecOk_c a b c _).mono ?_
  rintro e w1 ⟨rfl, hb⟩
  have HB1 : Hid (Below w.heap.size w w1) := below_then HV.out hb
  have a0 := (HA.out.below hb).cell 0 _ rfl
  have a1 := (HA.out.below hb).cell 1 _ rfl
  have a2 := (HA.out.below hb).cell 2 _ rfl
  have r0 := (HR.out.below hb).cell 0 _ rfl
  have f0 := (HR.out.below hb).free 0
  have hsz := (HR.out.below hb).lt
  clear hb HA HR
  cases hv : vokB a b c
  · have HN : Hid (newR a b c = []) := by show _ = _; rw [newR, hv]; rfl
    have Hv : Hid (vokB a b c = false) := hv
    clear hv
    go_wp2_with fail
    refine bodyPost_ret (v := .tuple #[.agg #[.slice none 0 0], .bool false]) (by simp [results, Try.results150, go_sem, *]) rfl ⟨_, by rw [Hv.out], ?_, HB1.out.setCell (by show w.heap.size ≤ w.heap.size + 1; omega) _⟩
    rw [HN.out]
    exact AnsP.none _ _ _ _ _
  · have HN : Hid (newR a b c = [⟨0, a, b, c⟩]) := by show _ = _; rw [newR, hv]; rfl
    have Hv : Hid (vokB a b c = true) := hv
    clear hv
    have hne : w.heap.size + 1 ≠ w1.heap.size := by omega
    go_wp2_with fail
    refine bodyPost_ret (v := .tuple #[.agg #[.slice (some ⟨w1.heap.size, 0, none⟩) 1 1], .bool true]) (by simp [results, Try.results150, go_sem, *]) rfl ⟨_, by rw [Hv.out], ?_, behind_alloc (HB1.out.setCell (by show w.heap.size ≤ w.heap.size + 1; omega) _) _⟩
    rw [HN.out]
    have hrow := row_fresh (w1.setCell ⟨w.heap.size + 1, 0, none⟩ (.slice (some ⟨w1.heap.size, 0, none⟩) 1 1)) [.int .i64 0, .int .i64 a, .int .i64 b, .int .i64 c] 47
    rw [World.size_setCell] at hrow
    exact AnsP.of_row (n := 1) rfl hrow HB1.out.size hrow.lt
end Go.Proofs.Ytgpogglaffehcaa
