/- VecAdd, VecSub, VecMin: the specification's, each where it answers and where it doesn't. -/
import Derived.Test.YtbnbikmnembciaaVecF
namespace Go.Proofs.Ytbnbikmnembciaa
open Go.ChangeShapes Go.WideShapes Go.ChangeAt Go.RowKit


/-- One of the two isn't right. -/
theorem specVecMin_wrong (a b c x y z : Int) (w : World) (h : (vokB a b c && vokB x y z) = false) :
    Calls Try.prog 44 #[.agg #[.int .i64 a, .int .i64 b, .int .i64 c], .agg #[.int .i64 x, .int .i64 y, .int .i64 z]] w fun e w' =>
      e = .returned (.agg #[.int .i64 0, .int .i64 0, .int .i64 0]) ∧ Below w.heap.size w w' := by
  cases h1 : vokB a b c
  · have Hn : Hid (vokB a b c = _) := h1
    clear h1 h
    go_enter Try.func44, Try.ntmps44
    go_wp2_with fail
    refine (specVecOk_c a b c _).mono ?_
    rintro e w2 ⟨rfl, B2⟩
    rw [Hn.out]
    obtain ⟨q0, q1, q2⟩ := kept3 B2 (w.heap.size + 1 + 1) (.int .i64 0) (.int .i64 0) (.int .i64 0) (by go_size) (by simp [go_sem])
    have f0 : w2.frozen? ⟨w.heap.size + 1 + 1, 0, none⟩ = false := by rw [B2.frozen (by go_size)]; simp [go_sem]
    have f1 : w2.frozen? ⟨w.heap.size + 1 + 1, 1, none⟩ = false := by rw [B2.frozen (by go_size)]; simp [go_sem]
    have f2 : w2.frozen? ⟨w.heap.size + 1 + 1, 2, none⟩ = false := by rw [B2.frozen (by go_size)]; simp [go_sem]
    have B8 : Below w.heap.size w w2 := below_then (by go_grown) B2
    go_wp2
    exact bodyPost_ret (v := .agg #[.int .i64 0, .int .i64 0, .int .i64 0]) (by simp [results, Try.results44, go_sem, *]) rfl ⟨rfl, by go_grown⟩
  · have h2 : vokB x y z = false := by rw [h1] at h; simpa using h
    have Hn : Hid (vokB a b c = _) := h1
    have Hm : Hid (vokB x y z = _) := h2
    clear h1 h h2
    go_enter Try.func44, Try.ntmps44
    go_wp2_with fail
    refine (specVecOk_c a b c _).mono ?_
    rintro e w1 ⟨rfl, hb1⟩
    rw [Hn.out]
    obtain ⟨c0, c1, c2⟩ := kept3 hb1 (w.heap.size + 1) (.int .i64 x) (.int .i64 y) (.int .i64 z) (by go_size) (by simp [go_sem])
    go_wp2_with fail
    refine (specVecOk_c x y z _).mono ?_
    rintro e w2 ⟨rfl, hb2⟩
    rw [Hm.out]
    have B2 := below_then hb1 hb2
    obtain ⟨q0, q1, q2⟩ := kept3 B2 (w.heap.size + 1 + 1) (.int .i64 0) (.int .i64 0) (.int .i64 0) (by go_size) (by simp [go_sem])
    have f0 : w2.frozen? ⟨w.heap.size + 1 + 1, 0, none⟩ = false := by rw [B2.frozen (by go_size)]; simp [go_sem]
    have f1 : w2.frozen? ⟨w.heap.size + 1 + 1, 1, none⟩ = false := by rw [B2.frozen (by go_size)]; simp [go_sem]
    have f2 : w2.frozen? ⟨w.heap.size + 1 + 1, 2, none⟩ = false := by rw [B2.frozen (by go_size)]; simp [go_sem]
    have B8 : Below w.heap.size w w2 := below_then (by go_grown) B2
    go_wp2
    exact bodyPost_ret (v := .agg #[.int .i64 0, .int .i64 0, .int .i64 0]) (by simp [results, Try.results44, go_sem, *]) rfl ⟨rfl, by go_grown⟩

theorem fit_sub (a b c x y z : Int) : fitB x y z a b c = subB a b c x y z := by
  rw [Bool.eq_iff_iff]
  simp only [fitB, subB, Bool.and_eq_true, vok_iff, nabB, decide_eq_true_eq]
  omega

set_option maxHeartbeats 1000000 in
theorem specVecMin_yes (a b c x y z : Int) (w : World) (h1 : vokB a b c = true) (h2 : vokB x y z = true) :
    Calls Try.prog 44 #[.agg #[.int .i64 a, .int .i64 b, .int .i64 c], .agg #[.int .i64 x, .int .i64 y, .int .i64 z]] w fun e w' =>
      e = .returned (.agg #[.int .i64 (min a x), .int .i64 (min b y), .int .i64 (min c z)]) ∧ Below w.heap.size w w' := by
  have Hn : Hid (vokB a b c = _) := h1
  have Hm : Hid (vokB x y z = _) := h2
  clear h1 h2
  go_enter Try.func44, Try.ntmps44
  go_wp2_with fail
  refine (specVecOk_c a b c _).mono ?_
  rintro e w1 ⟨rfl, hb1⟩
  rw [Hn.out]
  obtain ⟨d0, d1, d2⟩ := kept3 hb1 (w.heap.size + 1) (.int .i64 x) (.int .i64 y) (.int .i64 z) (by go_size) (by simp [go_sem])
  go_wp2_with fail
  refine (specVecOk_c x y z _).mono ?_
  rintro e w2 ⟨rfl, hb2⟩
  rw [Hm.out]
  have B2 := below_then hb1 hb2
  obtain ⟨r0, r1, r2⟩ := kept3 B2 (w.heap.size + 1) (.int .i64 x) (.int .i64 y) (.int .i64 z) (by go_size) (by simp [go_sem])
  obtain ⟨s0, s1, s2⟩ := kept3 B2 w.heap.size (.int .i64 a) (.int .i64 b) (.int .i64 c) (by go_size) (by simp [go_sem])
  obtain ⟨q0, q1, q2⟩ := kept3 B2 (w.heap.size + 1 + 1) (.int .i64 0) (.int .i64 0) (.int .i64 0) (by go_size) (by simp [go_sem])
  have f0 : w2.frozen? ⟨w.heap.size + 1 + 1, 0, none⟩ = false := by rw [B2.frozen (by go_size)]; simp [go_sem]
  have f1 : w2.frozen? ⟨w.heap.size + 1 + 1, 1, none⟩ = false := by rw [B2.frozen (by go_size)]; simp [go_sem]
  have f2 : w2.frozen? ⟨w.heap.size + 1 + 1, 2, none⟩ = false := by rw [B2.frozen (by go_size)]; simp [go_sem]
  have B8 : Below w.heap.size w w2 := below_then (by go_grown) B2
  have hne : w.heap.size + 1 + 1 ≠ w.heap.size := by omega
  have hne' : w.heap.size ≠ w.heap.size + 1 + 1 := by omega
  clear d0 d1 d2 hb1 hb2 B2
  go_wp2_with fail
  go_region_held3 (fun w' => w'.cell? ⟨w.heap.size, 0, none⟩ = some (.int .i64 a) ∧ w'.cell? ⟨w.heap.size, 1, none⟩ = some (.int .i64 b) ∧ w'.cell? ⟨w.heap.size, 2, none⟩ = some (.int .i64 c) ∧ w'.cell? ⟨w.heap.size + 1, 0, none⟩ = some (.int .i64 x) ∧ w'.cell? ⟨w.heap.size + 1, 1, none⟩ = some (.int .i64 y) ∧ w'.cell? ⟨w.heap.size + 1, 2, none⟩ = some (.int .i64 z)) (go_keep) ((go_at_call 61; refine (l01Min_c _ _ _).mono ?_; rintro e w' ⟨rfl, rfl⟩))
  go_wp2
  exact bodyPost_ret (v := .agg #[.int .i64 (min a x), .int .i64 (min b y), .int .i64 (min c z)]) (by simp [results, Try.results44, go_sem, *]) rfl ⟨rfl, by go_grown⟩
end Go.Proofs.Ytbnbikmnembciaa
