/- VecFits, the pair's sum, difference and lesser one: the program's. -/
import Derived.Test.YtmpjebkjopfejaaGreatMzVecC
namespace Go.Proofs.YtmpjebkjopfejaaGreat
open Go.ChangeShapes Go.WideShapes Go.ChangeAt Go.RowKit

/-- The second vector has room for the first. -/
def fitB (a b c x y z : Int) : Bool := vokB a b c && vokB x y z && nabB a b c x y z

theorem specVecFits_c (a b c x y z : Int) (w : World) :
    Calls Tryz.prog 105 #[.agg #[.int .i64 a, .int .i64 b, .int .i64 c], .agg #[.int .i64 x, .int .i64 y, .int .i64 z]] w fun e w' => e = .returned (.bool (fitB a b c x y z)) ∧ Below w.heap.size w w' := by
  cases h1 : vokB a b c
  · have Hn : Hid (vokB a b c = _) := h1
    clear h1
    go_enter Tryz.func105, Tryz.ntmps105
    go_wp2_with fail
    refine (specVecOk_c _ _ _ _).mono ?_
    rintro e w1 ⟨rfl, hb1⟩
    rw [Hn.out]
    go_wp2
    go_ret
    exact ⟨by simp [fitB, Hn.out], below_then (by go_grown) hb1⟩
  · cases h2 : vokB x y z
    all_goals
      have Hn : Hid (vokB a b c = _) := h1
      have Hm : Hid (vokB x y z = _) := h2
      clear h1 h2
      go_enter Tryz.func105, Tryz.ntmps105
      go_wp2_with fail
      refine (specVecOk_c _ _ _ _).mono ?_
      rintro e w1 ⟨rfl, hb1⟩
      rw [Hn.out]
      obtain ⟨c0, c1, c2⟩ := kept3 hb1 (w.heap.size + 1) (.int .i64 x) (.int .i64 y) (.int .i64 z) (by go_size) (by simp)
      go_wp2_with fail
      refine (specVecOk_c _ _ _ _).mono ?_
      rintro e w2 ⟨rfl, hb2⟩
      have B2 := below_then hb1 hb2
      rw [Hm.out]
    · go_wp2
      go_ret
      exact ⟨by simp [fitB, Hn.out, Hm.out], below_then (by go_grown) B2⟩
    · obtain ⟨c3, c4, c5⟩ := kept3 B2 (w.heap.size + 1) (.int .i64 x) (.int .i64 y) (.int .i64 z) (by go_size) (by simp)
      obtain ⟨c6, c7, c8⟩ := kept3 B2 w.heap.size (.int .i64 a) (.int .i64 b) (.int .i64 c) (by go_size) (by simp)
      go_wp2
      all_goals (go_ret; exact ⟨by simp [fitB, nabB, Hn.out, Hm.out] <;> omega, below_then (by go_grown) B2⟩)

/-- Two boxed vectors, whatever has been made behind them. -/
theorem held_two (w : World) (t : TypeId) (a b c x y z : Value) (w' : World) (h : Below ((w.alloc (.cells #[a, b, c] t)).alloc (.cells #[x, y, z] t)).heap.size ((w.alloc (.cells #[a, b, c] t)).alloc (.cells #[x, y, z] t)) w') :
    Below ((w.alloc (.cells #[a, b, c] t)).alloc (.cells #[x, y, z] t)).heap.size ((w.alloc (.cells #[a, b, c] t)).alloc (.cells #[x, y, z] t)) w' ∧ w'.cell? ⟨w.heap.size, 0, none⟩ = some a ∧ w'.cell? ⟨w.heap.size, 1, none⟩ = some b ∧ w'.cell? ⟨w.heap.size, 2, none⟩ = some c ∧ w'.cell? ⟨w.heap.size + 1, 0, none⟩ = some x ∧ w'.cell? ⟨w.heap.size + 1, 1, none⟩ = some y ∧ w'.cell? ⟨w.heap.size + 1, 2, none⟩ = some z := by
  obtain ⟨c0, c1, c2⟩ := kept3 h w.heap.size a b c (by go_size) (by simp)
  obtain ⟨c3, c4, c5⟩ := kept3 h (w.heap.size + 1) x y z (by go_size) (by simp)
  exact ⟨h, c0, c1, c2, c3, c4, c5⟩

end Go.Proofs.YtmpjebkjopfejaaGreat
