/- VecAdd, VecSub, VecMin: the program's, each where it answers and where it doesn't. -/
import Derived.Test.YtmpjebkjopfejaaGreatMzVecE
namespace Go.Proofs.YtmpjebkjopfejaaGreat
open Go.ChangeShapes Go.WideShapes Go.ChangeAt Go.RowKit

/-- The sums are there. -/
def addB (a b c x y z : Int) : Bool := vokB a b c && vokB x y z && vokB (a + x) (b + y) (c + z)
/-- The differences are there. -/
def subB (a b c x y z : Int) : Bool := vokB a b c && vokB x y z && vokB (a - x) (b - y) (c - z)
/-- Both are right. -/
def minB (a b c x y z : Int) : Bool := vokB a b c && vokB x y z && vokB (min a x) (min b y) (min c z)

theorem wrap_small {n : Int} (h0 : -9000000 ≤ n) (h1 : n ≤ 9000000) : wrap64 n = n := by unfold wrap64; omega
theorem wsum {a b c x y z : Int} (h1 : vokB a b c = true) (h2 : vokB x y z = true) : wrap64 (a + x) = a + x ∧ wrap64 (b + y) = b + y ∧ wrap64 (c + z) = c + z := by
  rw [vok_iff] at h1 h2
  exact ⟨wrap_small (by omega) (by omega), wrap_small (by omega) (by omega), wrap_small (by omega) (by omega)⟩
theorem wdifference {a b c x y z : Int} (h1 : vokB a b c = true) (h2 : vokB x y z = true) : wrap64 (a - x) = a - x ∧ wrap64 (b - y) = b - y ∧ wrap64 (c - z) = c - z := by
  rw [vok_iff] at h1 h2
  exact ⟨wrap_small (by omega) (by omega), wrap_small (by omega) (by omega), wrap_small (by omega) (by omega)⟩
theorem wlesser {a b c x y z : Int} (_h1 : vokB a b c = true) (_h2 : vokB x y z = true) : min a x = min a x ∧ min b y = min b y ∧ min c z = min c z := ⟨rfl, rfl, rfl⟩

theorem rp_lesser_yes (a b c x y z : Int) (w : World) (h : minB a b c x y z = true) :
    Calls Tryz.prog 96 #[.agg #[.int .i64 a, .int .i64 b, .int .i64 c], .agg #[.int .i64 x, .int .i64 y, .int .i64 z], .func (.func 132) #[] #[]] w fun e w' =>
      e = .returned (.tuple #[.agg #[.int .i64 (min a x), .int .i64 (min b y), .int .i64 (min c z)], .bool true]) ∧ Below w.heap.size w w' := by
  have h' := h
  simp only [minB, Bool.and_eq_true] at h'
  obtain ⟨⟨h1, h2⟩, h3⟩ := h'
  have e := wlesser h1 h2
  have r := rightPair_lesser a b c x y z w h1 h2 true (by rw [e.1, e.2.1, e.2.2]; exact h3)
  rw [e.1, e.2.1, e.2.2] at r
  exact r
theorem rp_lesser_no (a b c x y z : Int) (w : World) (h : minB a b c x y z = false) :
    Calls Tryz.prog 96 #[.agg #[.int .i64 a, .int .i64 b, .int .i64 c], .agg #[.int .i64 x, .int .i64 y, .int .i64 z], .func (.func 132) #[] #[]] w fun e w' =>
      e = .returned (.tuple #[.agg #[.int .i64 0, .int .i64 0, .int .i64 0], .bool false]) ∧ Below w.heap.size w w' := by
  cases h12 : vokB a b c && vokB x y z
  · exact rightPair_lesser_no a b c x y z w h12
  · have h3 : vokB (min a x) (min b y) (min c z) = false := by simpa [minB, h12] using h
    rw [Bool.and_eq_true] at h12
    have e := wlesser h12.1 h12.2
    exact rightPair_lesser a b c x y z w h12.1 h12.2 false (by rw [e.1, e.2.1, e.2.2]; exact h3)
theorem rp_sum_yes (a b c x y z : Int) (w : World) (h : addB a b c x y z = true) :
    Calls Tryz.prog 96 #[.agg #[.int .i64 a, .int .i64 b, .int .i64 c], .agg #[.int .i64 x, .int .i64 y, .int .i64 z], .func (.func 100) #[] #[]] w fun e w' =>
      e = .returned (.tuple #[.agg #[.int .i64 (a + x), .int .i64 (b + y), .int .i64 (c + z)], .bool true]) ∧ Below w.heap.size w w' := by
  have h' := h
  simp only [addB, Bool.and_eq_true] at h'
  obtain ⟨⟨h1, h2⟩, h3⟩ := h'
  have e := wsum h1 h2
  have r := rightPair_sum a b c x y z w h1 h2 true (by rw [e.1, e.2.1, e.2.2]; exact h3)
  rw [e.1, e.2.1, e.2.2] at r
  exact r
theorem rp_sum_no (a b c x y z : Int) (w : World) (h : addB a b c x y z = false) :
    Calls Tryz.prog 96 #[.agg #[.int .i64 a, .int .i64 b, .int .i64 c], .agg #[.int .i64 x, .int .i64 y, .int .i64 z], .func (.func 100) #[] #[]] w fun e w' =>
      e = .returned (.tuple #[.agg #[.int .i64 0, .int .i64 0, .int .i64 0], .bool false]) ∧ Below w.heap.size w w' := by
  cases h12 : vokB a b c && vokB x y z
  · exact rightPair_sum_no a b c x y z w h12
  · have h3 : vokB (a + x) (b + y) (c + z) = false := by simpa [addB, h12] using h
    rw [Bool.and_eq_true] at h12
    have e := wsum h12.1 h12.2
    exact rightPair_sum a b c x y z w h12.1 h12.2 false (by rw [e.1, e.2.1, e.2.2]; exact h3)
theorem rp_difference_yes (a b c x y z : Int) (w : World) (h : subB a b c x y z = true) :
    Calls Tryz.prog 96 #[.agg #[.int .i64 a, .int .i64 b, .int .i64 c], .agg #[.int .i64 x, .int .i64 y, .int .i64 z], .func (.func 97) #[] #[]] w fun e w' =>
      e = .returned (.tuple #[.agg #[.int .i64 (a - x), .int .i64 (b - y), .int .i64 (c - z)], .bool true]) ∧ Below w.heap.size w w' := by
  have h' := h
  simp only [subB, Bool.and_eq_true] at h'
  obtain ⟨⟨h1, h2⟩, h3⟩ := h'
  have e := wdifference h1 h2
  have r := rightPair_difference a b c x y z w h1 h2 true (by rw [e.1, e.2.1, e.2.2]; exact h3)
  rw [e.1, e.2.1, e.2.2] at r
  exact r
theorem rp_difference_no (a b c x y z : Int) (w : World) (h : subB a b c x y z = false) :
    Calls Tryz.prog 96 #[.agg #[.int .i64 a, .int .i64 b, .int .i64 c], .agg #[.int .i64 x, .int .i64 y, .int .i64 z], .func (.func 97) #[] #[]] w fun e w' =>
      e = .returned (.tuple #[.agg #[.int .i64 0, .int .i64 0, .int .i64 0], .bool false]) ∧ Below w.heap.size w w' := by
  cases h12 : vokB a b c && vokB x y z
  · exact rightPair_difference_no a b c x y z w h12
  · have h3 : vokB (a - x) (b - y) (c - z) = false := by simpa [subB, h12] using h
    rw [Bool.and_eq_true] at h12
    have e := wdifference h12.1 h12.2
    exact rightPair_difference a b c x y z w h12.1 h12.2 false (by rw [e.1, e.2.1, e.2.2]; exact h3)

theorem implVecAdd_yes (a b c x y z : Int) (w : World) (h : addB a b c x y z = true) :
    Calls Tryz.prog 72 #[.agg #[.int .i64 a, .int .i64 b, .int .i64 c], .agg #[.int .i64 x, .int .i64 y, .int .i64 z]] w fun e w' =>
      e = .returned (.tuple #[.agg #[.int .i64 (a + x), .int .i64 (b + y), .int .i64 (c + z)], .bool true]) ∧ Below w.heap.size w w' := by
  have Hn : Hid (addB a b c x y z = _) := h
  clear h
  go_enter Tryz.func72, Tryz.ntmps72
  go_wp2_with fail
  refine (rp_sum_yes _ _ _ _ _ _ _ Hn.out).mono ?_
  rintro e w1 ⟨rfl, hb1⟩
  obtain ⟨q0, q1, q2⟩ := kept3 hb1 (w.heap.size + 1 + 1) (.int .i64 0) (.int .i64 0) (.int .i64 0) (by go_size) (by simp [go_sem])
  have f0 : w1.frozen? ⟨w.heap.size + 1 + 1, 0, none⟩ = false := by rw [hb1.frozen (by go_size)]; simp [go_sem]
  have f1 : w1.frozen? ⟨w.heap.size + 1 + 1, 1, none⟩ = false := by rw [hb1.frozen (by go_size)]; simp [go_sem]
  have f2 : w1.frozen? ⟨w.heap.size + 1 + 1, 2, none⟩ = false := by rw [hb1.frozen (by go_size)]; simp [go_sem]
  have B8 : Below w.heap.size w w1 := below_then (by go_grown) hb1
  go_wp2
  exact bodyPost_ret (v := .tuple #[.agg #[.int .i64 (a + x), .int .i64 (b + y), .int .i64 (c + z)], .bool true]) (by simp [results, Tryz.results72, go_sem, *]) rfl ⟨rfl, by go_grown⟩
theorem implVecAdd_no (a b c x y z : Int) (w : World) (h : addB a b c x y z = false) :
    Calls Tryz.prog 72 #[.agg #[.int .i64 a, .int .i64 b, .int .i64 c], .agg #[.int .i64 x, .int .i64 y, .int .i64 z]] w fun e w' =>
      e = .returned (.tuple #[.agg #[.int .i64 0, .int .i64 0, .int .i64 0], .bool false]) ∧ Below w.heap.size w w' := by
  have Hn : Hid (addB a b c x y z = _) := h
  clear h
  go_enter Tryz.func72, Tryz.ntmps72
  go_wp2_with fail
  refine (rp_sum_no _ _ _ _ _ _ _ Hn.out).mono ?_
  rintro e w1 ⟨rfl, hb1⟩
  obtain ⟨q0, q1, q2⟩ := kept3 hb1 (w.heap.size + 1 + 1) (.int .i64 0) (.int .i64 0) (.int .i64 0) (by go_size) (by simp [go_sem])
  have f0 : w1.frozen? ⟨w.heap.size + 1 + 1, 0, none⟩ = false := by rw [hb1.frozen (by go_size)]; simp [go_sem]
  have f1 : w1.frozen? ⟨w.heap.size + 1 + 1, 1, none⟩ = false := by rw [hb1.frozen (by go_size)]; simp [go_sem]
  have f2 : w1.frozen? ⟨w.heap.size + 1 + 1, 2, none⟩ = false := by rw [hb1.frozen (by go_size)]; simp [go_sem]
  have B8 : Below w.heap.size w w1 := below_then (by go_grown) hb1
  go_wp2
  exact bodyPost_ret (v := .tuple #[.agg #[.int .i64 0, .int .i64 0, .int .i64 0], .bool false]) (by simp [results, Tryz.results72, go_sem, *]) rfl ⟨rfl, by go_grown⟩
theorem implVecSub_yes (a b c x y z : Int) (w : World) (h : subB a b c x y z = true) :
    Calls Tryz.prog 64 #[.agg #[.int .i64 a, .int .i64 b, .int .i64 c], .agg #[.int .i64 x, .int .i64 y, .int .i64 z]] w fun e w' =>
      e = .returned (.tuple #[.agg #[.int .i64 (a - x), .int .i64 (b - y), .int .i64 (c - z)], .bool true]) ∧ Below w.heap.size w w' := by
  have Hn : Hid (subB a b c x y z = _) := h
  clear h
  go_enter Tryz.func64, Tryz.ntmps64
  go_wp2_with fail
  refine (rp_difference_yes _ _ _ _ _ _ _ Hn.out).mono ?_
  rintro e w1 ⟨rfl, hb1⟩
  obtain ⟨q0, q1, q2⟩ := kept3 hb1 (w.heap.size + 1 + 1) (.int .i64 0) (.int .i64 0) (.int .i64 0) (by go_size) (by simp [go_sem])
  have f0 : w1.frozen? ⟨w.heap.size + 1 + 1, 0, none⟩ = false := by rw [hb1.frozen (by go_size)]; simp [go_sem]
  have f1 : w1.frozen? ⟨w.heap.size + 1 + 1, 1, none⟩ = false := by rw [hb1.frozen (by go_size)]; simp [go_sem]
  have f2 : w1.frozen? ⟨w.heap.size + 1 + 1, 2, none⟩ = false := by rw [hb1.frozen (by go_size)]; simp [go_sem]
  have B8 : Below w.heap.size w w1 := below_then (by go_grown) hb1
  go_wp2
  exact bodyPost_ret (v := .tuple #[.agg #[.int .i64 (a - x), .int .i64 (b - y), .int .i64 (c - z)], .bool true]) (by simp [results, Tryz.results64, go_sem, *]) rfl ⟨rfl, by go_grown⟩
theorem implVecSub_no (a b c x y z : Int) (w : World) (h : subB a b c x y z = false) :
    Calls Tryz.prog 64 #[.agg #[.int .i64 a, .int .i64 b, .int .i64 c], .agg #[.int .i64 x, .int .i64 y, .int .i64 z]] w fun e w' =>
      e = .returned (.tuple #[.agg #[.int .i64 0, .int .i64 0, .int .i64 0], .bool false]) ∧ Below w.heap.size w w' := by
  have Hn : Hid (subB a b c x y z = _) := h
  clear h
  go_enter Tryz.func64, Tryz.ntmps64
  go_wp2_with fail
  refine (rp_difference_no _ _ _ _ _ _ _ Hn.out).mono ?_
  rintro e w1 ⟨rfl, hb1⟩
  obtain ⟨q0, q1, q2⟩ := kept3 hb1 (w.heap.size + 1 + 1) (.int .i64 0) (.int .i64 0) (.int .i64 0) (by go_size) (by simp [go_sem])
  have f0 : w1.frozen? ⟨w.heap.size + 1 + 1, 0, none⟩ = false := by rw [hb1.frozen (by go_size)]; simp [go_sem]
  have f1 : w1.frozen? ⟨w.heap.size + 1 + 1, 1, none⟩ = false := by rw [hb1.frozen (by go_size)]; simp [go_sem]
  have f2 : w1.frozen? ⟨w.heap.size + 1 + 1, 2, none⟩ = false := by rw [hb1.frozen (by go_size)]; simp [go_sem]
  have B8 : Below w.heap.size w w1 := below_then (by go_grown) hb1
  go_wp2
  exact bodyPost_ret (v := .tuple #[.agg #[.int .i64 0, .int .i64 0, .int .i64 0], .bool false]) (by simp [results, Tryz.results64, go_sem, *]) rfl ⟨rfl, by go_grown⟩

end Go.Proofs.YtmpjebkjopfejaaGreat
