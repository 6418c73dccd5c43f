/- What the program's and the specification's VecAdd, VecSub, VecMin answer is one and the same. -/
import Derived.Test.YtmpjebkjopfejaaGreatMzVecG
namespace Go.Proofs.YtmpjebkjopfejaaGreat
open Go.ChangeShapes Go.WideShapes Go.ChangeAt Go.RowKit

theorem both_add (a b c x y z : Int) : ∃ (r0 r1 r2 : Int) (k : Bool),
    (∀ w, Calls Tryz.prog 79 #[.agg #[.int .i64 a, .int .i64 b, .int .i64 c], .agg #[.int .i64 x, .int .i64 y, .int .i64 z]] w fun e w' => e = .returned (.tuple #[.agg #[.int .i64 r0, .int .i64 r1, .int .i64 r2], .bool k]) ∧ Below w.heap.size w w') ∧
    (∀ w, Calls Tryz.prog 72 #[.agg #[.int .i64 a, .int .i64 b, .int .i64 c], .agg #[.int .i64 x, .int .i64 y, .int .i64 z]] w fun e w' => e = .returned (.tuple #[.agg #[.int .i64 r0, .int .i64 r1, .int .i64 r2], .bool k]) ∧ Below w.heap.size w w') := by
  cases h : addB a b c x y z
  · refine ⟨0, 0, 0, false, fun w => ?_, fun w => implVecAdd_no a b c x y z w h⟩
    cases h12 : vokB a b c && vokB x y z
    · exact specVecAdd_wrong a b c x y z w h12
    · have h3 : vokB (a + x) (b + y) (c + z) = false := by simpa [addB, h12] using h
      rw [Bool.and_eq_true] at h12
      exact specVecAdd_over a b c x y z w h12.1 h12.2 h3
  · refine ⟨a + x, b + y, c + z, true, fun w => ?_, fun w => implVecAdd_yes a b c x y z w h⟩
    simp only [addB, Bool.and_eq_true] at h
    exact specVecAdd_yes a b c x y z w h.1.1 h.1.2 h.2

theorem both_sub (a b c x y z : Int) : ∃ (r0 r1 r2 : Int) (k : Bool),
    (∀ w, Calls Tryz.prog 80 #[.agg #[.int .i64 a, .int .i64 b, .int .i64 c], .agg #[.int .i64 x, .int .i64 y, .int .i64 z]] w fun e w' => e = .returned (.tuple #[.agg #[.int .i64 r0, .int .i64 r1, .int .i64 r2], .bool k]) ∧ Below w.heap.size w w') ∧
    (∀ w, Calls Tryz.prog 64 #[.agg #[.int .i64 a, .int .i64 b, .int .i64 c], .agg #[.int .i64 x, .int .i64 y, .int .i64 z]] w fun e w' => e = .returned (.tuple #[.agg #[.int .i64 r0, .int .i64 r1, .int .i64 r2], .bool k]) ∧ Below w.heap.size w w') := by
  cases h : subB a b c x y z
  · exact ⟨0, 0, 0, false, fun w => specVecSub_no a b c x y z w h, fun w => implVecSub_no a b c x y z w h⟩
  · refine ⟨a - x, b - y, c - z, true, fun w => ?_, fun w => implVecSub_yes a b c x y z w h⟩
    have h' := h
    simp only [subB, Bool.and_eq_true, vok_iff] at h'
    exact specVecSub_yes a b c x y z w h (by omega) (by omega) (by omega) (by omega) (by omega) (by omega)

end Go.Proofs.YtmpjebkjopfejaaGreat
