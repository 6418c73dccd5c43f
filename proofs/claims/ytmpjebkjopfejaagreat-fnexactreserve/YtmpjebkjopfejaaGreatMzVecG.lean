/- VecAdd, VecSub, VecMin: the specification's, each where it answers and where it doesn't. -/
import Derived.Test.YtmpjebkjopfejaaGreatMzVecF
namespace Go.Proofs.YtmpjebkjopfejaaGreat
open Go.ChangeShapes Go.WideShapes Go.ChangeAt Go.RowKit


/-- One of the two isn't right. -/
theorem specVecAdd_wrong (a b c x y z : Int) (w : World) (h : (vokB a b c && vokB x y z) = false) :
    Calls Tryz.prog 79 #[.agg #[.int .i64 a, .int .i64 b, .int .i64 c], .agg #[.int .i64 x, .int .i64 y, .int .i64 z]] w fun e w' =>
      e = .returned (.tuple #[.agg #[.int .i64 0, .int .i64 0, .int .i64 0], .bool false]) ∧ Below w.heap.size w w' := by
  cases h1 : vokB a b c
  · have Hn : Hid (vokB a b c = _) := h1
    clear h1 h
    go_enter Tryz.func79, Tryz.ntmps79
    go_wp2_with fail
    refine (specVecOk_c a b c _).mono ?_
    rintro e w2 ⟨rfl, B2⟩
    rw [Hn.out]
    obtain ⟨q0, q1, q2⟩ := kept3 B2 (w.heap.size + 1 + 1) (.int .i64 0) (.int .i64 0) (.int .i64 0) (by go_size) (by simp [go_sem])
    have f0 : w2.frozen? ⟨w.heap.size + 1 + 1, 0, none⟩ = false := by rw [B2.frozen (by go_size)]; simp [go_sem]
    have f1 : w2.frozen? ⟨w.heap.size + 1 + 1, 1, none⟩ = false := by rw [B2.frozen (by go_size)]; simp [go_sem]
    have f2 : w2.frozen? ⟨w.heap.size + 1 + 1, 2, none⟩ = false := by rw [B2.frozen (by go_size)]; simp [go_sem]
    have B8 : Below w.heap.size w w2 := below_then (by go_grown) B2
    go_wp2
    exact bodyPost_ret (v := .tuple #[.agg #[.int .i64 0, .int .i64 0, .int .i64 0], .bool false]) (by simp [results, Tryz.results79, go_sem, *]) rfl ⟨rfl, by go_grown⟩
  · have h2 : vokB x y z = false := by rw [h1] at h; simpa using h
    have Hn : Hid (vokB a b c = _) := h1
    have Hm : Hid (vokB x y z = _) := h2
    clear h1 h h2
    go_enter Tryz.func79, Tryz.ntmps79
    go_wp2_with fail
    refine (specVecOk_c a b c _).mono ?_
    rintro e w1 ⟨rfl, hb1⟩
    rw [Hn.out]
    obtain ⟨c0, c1, c2⟩ := kept3 hb1 (w.heap.size + 1) (.int .i64 x) (.int .i64 y) (.int .i64 z) (by go_size) (by simp [go_sem])
    go_wp2_with fail
    refine (specVecOk_c x y z _).mono ?_
    rintro e w2 ⟨rfl, hb2⟩
    rw [Hm.out]
    have B2 := below_then hb1 hb2
    obtain ⟨q0, q1, q2⟩ := kept3 B2 (w.heap.size + 1 + 1) (.int .i64 0) (.int .i64 0) (.int .i64 0) (by go_size) (by simp [go_sem])
    have f0 : w2.frozen? ⟨w.heap.size + 1 + 1, 0, none⟩ = false := by rw [B2.frozen (by go_size)]; simp [go_sem]
    have f1 : w2.frozen? ⟨w.heap.size + 1 + 1, 1, none⟩ = false := by rw [B2.frozen (by go_size)]; simp [go_sem]
    have f2 : w2.frozen? ⟨w.heap.size + 1 + 1, 2, none⟩ = false := by rw [B2.frozen (by go_size)]; simp [go_sem]
    have B8 : Below w.heap.size w w2 := below_then (by go_grown) B2
    go_wp2
    exact bodyPost_ret (v := .tuple #[.agg #[.int .i64 0, .int .i64 0, .int .i64 0], .bool false]) (by simp [results, Tryz.results79, go_sem, *]) rfl ⟨rfl, by go_grown⟩
/-- One of the two isn't right. -/
theorem specVecMin_wrong (a b c x y z : Int) (w : World) (h : (vokB a b c && vokB x y z) = false) :
    Calls Tryz.prog 77 #[.agg #[.int .i64 a, .int .i64 b, .int .i64 c], .agg #[.int .i64 x, .int .i64 y, .int .i64 z]] w fun e w' =>
      e = .returned (.agg #[.int .i64 0, .int .i64 0, .int .i64 0]) ∧ Below w.heap.size w w' := by
  cases h1 : vokB a b c
  · have Hn : Hid (vokB a b c = _) := h1
    clear h1 h
    go_enter Tryz.func77, Tryz.ntmps77
    go_wp2_with fail
    refine (specVecOk_c a b c _).mono ?_
    rintro e w2 ⟨rfl, B2⟩
    rw [Hn.out]
    obtain ⟨q0, q1, q2⟩ := kept3 B2 (w.heap.size + 1 + 1) (.int .i64 0) (.int .i64 0) (.int .i64 0) (by go_size) (by simp [go_sem])
    have f0 : w2.frozen? ⟨w.heap.size + 1 + 1, 0, none⟩ = false := by rw [B2.frozen (by go_size)]; simp [go_sem]
    have f1 : w2.frozen? ⟨w.heap.size + 1 + 1, 1, none⟩ = false := by rw [B2.frozen (by go_size)]; simp [go_sem]
    have f2 : w2.frozen? ⟨w.heap.size + 1 + 1, 2, none⟩ = false := by rw [B2.frozen (by go_size)]; simp [go_sem]
    have B8 : Below w.heap.size w w2 := below_then (by go_grown) B2
    go_wp2
    exact bodyPost_ret (v := .agg #[.int .i64 0, .int .i64 0, .int .i64 0]) (by simp [results, Tryz.results77, go_sem, *]) rfl ⟨rfl, by go_grown⟩
  · have h2 : vokB x y z = false := by rw [h1] at h; simpa using h
    have Hn : Hid (vokB a b c = _) := h1
    have Hm : Hid (vokB x y z = _) := h2
    clear h1 h h2
    go_enter Tryz.func77, Tryz.ntmps77
    go_wp2_with fail
    refine (specVecOk_c a b c _).mono ?_
    rintro e w1 ⟨rfl, hb1⟩
    rw [Hn.out]
    obtain ⟨c0, c1, c2⟩ := kept3 hb1 (w.heap.size + 1) (.int .i64 x) (.int .i64 y) (.int .i64 z) (by go_size) (by simp [go_sem])
    go_wp2_with fail
    refine (specVecOk_c x y z _).mono ?_
    rintro e w2 ⟨rfl, hb2⟩
    rw [Hm.out]
    have B2 := below_then hb1 hb2
    obtain ⟨q0, q1, q2⟩ := kept3 B2 (w.heap.size + 1 + 1) (.int .i64 0) (.int .i64 0) (.int .i64 0) (by go_size) (by simp [go_sem])
    have f0 : w2.frozen? ⟨w.heap.size + 1 + 1, 0, none⟩ = false := by rw [B2.frozen (by go_size)]; simp [go_sem]
    have f1 : w2.frozen? ⟨w.heap.size + 1 + 1, 1, none⟩ = false := by rw [B2.frozen (by go_size)]; simp [go_sem]
    have f2 : w2.frozen? ⟨w.heap.size + 1 + 1, 2, none⟩ = false := by rw [B2.frozen (by go_size)]; simp [go_sem]
    have B8 : Below w.heap.size w w2 := below_then (by go_grown) B2
    go_wp2
    exact bodyPost_ret (v := .agg #[.int .i64 0, .int .i64 0, .int .i64 0]) (by simp [results, Tryz.results77, go_sem, *]) rfl ⟨rfl, by go_grown⟩

set_option maxHeartbeats 1000000 in
theorem specVecAdd_yes (a b c x y z : Int) (w : World) (h1 : vokB a b c = true) (h2 : vokB x y z = true) (h3 : vokB (a + x) (b + y) (c + z) = true) :
    Calls Tryz.prog 79 #[.agg #[.int .i64 a, .int .i64 b, .int .i64 c], .agg #[.int .i64 x, .int .i64 y, .int .i64 z]] w fun e w' =>
      e = .returned (.tuple #[.agg #[.int .i64 (a + x), .int .i64 (b + y), .int .i64 (c + z)], .bool true]) ∧ Below w.heap.size w w' := by
  have Hn : Hid (vokB a b c = _) := h1
  have Hm : Hid (vokB x y z = _) := h2
  have Hk : Hid (vokB (a + x) (b + y) (c + z) = _) := h3
  have k1 := vok_iff.1 h1
  have k2 := vok_iff.1 h2
  obtain ⟨⟨a0, a1⟩, ⟨b0, b1⟩, ⟨c0, c1⟩⟩ := k1
  obtain ⟨⟨x0, x1⟩, ⟨y0, y1⟩, ⟨z0, z1⟩⟩ := k2
  clear h1 h2 h3
  go_enter Tryz.func79, Tryz.ntmps79
  go_wp2_with fail
  refine (specVecOk_c a b c _).mono ?_
  rintro e w1 ⟨rfl, hb1⟩
  rw [Hn.out]
  obtain ⟨d0, d1, d2⟩ := kept3 hb1 (w.heap.size + 1) (.int .i64 x) (.int .i64 y) (.int .i64 z) (by go_size) (by simp [go_sem])
  go_wp2_with fail
  refine (specVecOk_c x y z _).mono ?_
  rintro e w2 ⟨rfl, hb2⟩
  rw [Hm.out]
  have B2 := below_then hb1 hb2
  obtain ⟨r0, r1, r2⟩ := kept3 B2 (w.heap.size + 1) (.int .i64 x) (.int .i64 y) (.int .i64 z) (by go_size) (by simp [go_sem])
  obtain ⟨s0, s1, s2⟩ := kept3 B2 w.heap.size (.int .i64 a) (.int .i64 b) (.int .i64 c) (by go_size) (by simp [go_sem])
  have zz := B2.size
  clear d0 d1 d2 hb1 hb2
  go_wp2_with fail
  refine (specVecOk_c (a + x) (b + y) (c + z) _).mono ?_
  rintro e w3 ⟨rfl, hb3⟩
  rw [Hk.out]
  have B3 := below_then (behind_alloc B2 _) hb3
  obtain ⟨q0, q1, q2⟩ := kept3 B3 (w.heap.size + 1 + 1) (.int .i64 0) (.int .i64 0) (.int .i64 0) (by go_size) (by simp [go_sem])
  obtain ⟨t0, t1, t2⟩ := kept3 hb3 w2.heap.size (.int .i64 (a + x)) (.int .i64 (b + y)) (.int .i64 (c + z)) (by go_size) (by simp [go_sem])
  have f0 : w3.frozen? ⟨w.heap.size + 1 + 1, 0, none⟩ = false := by rw [B3.frozen (by go_size)]; simp [go_sem]
  have f1 : w3.frozen? ⟨w.heap.size + 1 + 1, 1, none⟩ = false := by rw [B3.frozen (by go_size)]; simp [go_sem]
  have f2 : w3.frozen? ⟨w.heap.size + 1 + 1, 2, none⟩ = false := by rw [B3.frozen (by go_size)]; simp [go_sem]
  have B8 : Below w.heap.size w w3 := below_then (by go_grown) B3
  clear r0 r1 r2 s0 s1 s2 zz
  go_wp2
  exact bodyPost_ret (v := .tuple #[.agg #[.int .i64 (a + x), .int .i64 (b + y), .int .i64 (c + z)], .bool true]) (by simp [results, Tryz.results79, go_sem, *]) rfl ⟨rfl, by go_grown⟩
set_option maxHeartbeats 1000000 in
theorem specVecAdd_over (a b c x y z : Int) (w : World) (h1 : vokB a b c = true) (h2 : vokB x y z = true) (h3 : vokB (a + x) (b + y) (c + z) = false) :
    Calls Tryz.prog 79 #[.agg #[.int .i64 a, .int .i64 b, .int .i64 c], .agg #[.int .i64 x, .int .i64 y, .int .i64 z]] w fun e w' =>
      e = .returned (.tuple #[.agg #[.int .i64 0, .int .i64 0, .int .i64 0], .bool false]) ∧ Below w.heap.size w w' := by
  have Hn : Hid (vokB a b c = _) := h1
  have Hm : Hid (vokB x y z = _) := h2
  have Hk : Hid (vokB (a + x) (b + y) (c + z) = _) := h3
  have k1 := vok_iff.1 h1
  have k2 := vok_iff.1 h2
  obtain ⟨⟨a0, a1⟩, ⟨b0, b1⟩, ⟨c0, c1⟩⟩ := k1
  obtain ⟨⟨x0, x1⟩, ⟨y0, y1⟩, ⟨z0, z1⟩⟩ := k2
  clear h1 h2 h3
  go_enter Tryz.func79, Tryz.ntmps79
  go_wp2_with fail
  refine (specVecOk_c a b c _).mono ?_
  rintro e w1 ⟨rfl, hb1⟩
  rw [Hn.out]
  obtain ⟨d0, d1, d2⟩ := kept3 hb1 (w.heap.size + 1) (.int .i64 x) (.int .i64 y) (.int .i64 z) (by go_size) (by simp [go_sem])
  go_wp2_with fail
  refine (specVecOk_c x y z _).mono ?_
  rintro e w2 ⟨rfl, hb2⟩
  rw [Hm.out]
  have B2 := below_then hb1 hb2
  obtain ⟨r0, r1, r2⟩ := kept3 B2 (w.heap.size + 1) (.int .i64 x) (.int .i64 y) (.int .i64 z) (by go_size) (by simp [go_sem])
  obtain ⟨s0, s1, s2⟩ := kept3 B2 w.heap.size (.int .i64 a) (.int .i64 b) (.int .i64 c) (by go_size) (by simp [go_sem])
  have zz := B2.size
  clear d0 d1 d2 hb1 hb2
  go_wp2_with fail
  refine (specVecOk_c (a + x) (b + y) (c + z) _).mono ?_
  rintro e w3 ⟨rfl, hb3⟩
  rw [Hk.out]
  have B3 := below_then (behind_alloc B2 _) hb3
  obtain ⟨q0, q1, q2⟩ := kept3 B3 (w.heap.size + 1 + 1) (.int .i64 0) (.int .i64 0) (.int .i64 0) (by go_size) (by simp [go_sem])
  obtain ⟨t0, t1, t2⟩ := kept3 hb3 w2.heap.size (.int .i64 (a + x)) (.int .i64 (b + y)) (.int .i64 (c + z)) (by go_size) (by simp [go_sem])
  have f0 : w3.frozen? ⟨w.heap.size + 1 + 1, 0, none⟩ = false := by rw [B3.frozen (by go_size)]; simp [go_sem]
  have f1 : w3.frozen? ⟨w.heap.size + 1 + 1, 1, none⟩ = false := by rw [B3.frozen (by go_size)]; simp [go_sem]
  have f2 : w3.frozen? ⟨w.heap.size + 1 + 1, 2, none⟩ = false := by rw [B3.frozen (by go_size)]; simp [go_sem]
  have B8 : Below w.heap.size w w3 := below_then (by go_grown) B3
  clear r0 r1 r2 s0 s1 s2 zz
  go_wp2
  exact bodyPost_ret (v := .tuple #[.agg #[.int .i64 0, .int .i64 0, .int .i64 0], .bool false]) (by simp [results, Tryz.results79, go_sem, *]) rfl ⟨rfl, by go_grown⟩

theorem fit_sub (a b c x y z : Int) : fitB x y z a b c = subB a b c x y z := by
  rw [Bool.eq_iff_iff]
  simp only [fitB, subB, Bool.and_eq_true, vok_iff, nabB, decide_eq_true_eq]
  omega

set_option maxHeartbeats 1000000 in
theorem specVecSub_yes (a b c x y z : Int) (w : World) (h : subB a b c x y z = true) (_ba : -9000000 ≤ a - x) (_bb : a - x ≤ 9000000) (_bc : -9000000 ≤ b - y) (_bd : b - y ≤ 9000000) (_be : -9000000 ≤ c - z) (_bf : c - z ≤ 9000000) :
    Calls Tryz.prog 80 #[.agg #[.int .i64 a, .int .i64 b, .int .i64 c], .agg #[.int .i64 x, .int .i64 y, .int .i64 z]] w fun e w' =>
      e = .returned (.tuple #[.agg #[.int .i64 (a - x), .int .i64 (b - y), .int .i64 (c - z)], .bool true]) ∧ Below w.heap.size w w' := by
  have Hn : Hid (fitB x y z a b c = _) := (fit_sub a b c x y z).trans h
  clear h
  go_enter Tryz.func80, Tryz.ntmps80
  go_wp2_with fail
  refine (specVecFits_c x y z a b c _).mono ?_
  rintro e w2 ⟨rfl, B2⟩
  rw [Hn.out]
  obtain ⟨r0, r1, r2⟩ := kept3 B2 (w.heap.size + 1) (.int .i64 x) (.int .i64 y) (.int .i64 z) (by go_size) (by simp [go_sem])
  obtain ⟨s0, s1, s2⟩ := kept3 B2 w.heap.size (.int .i64 a) (.int .i64 b) (.int .i64 c) (by go_size) (by simp [go_sem])
  obtain ⟨q0, q1, q2⟩ := kept3 B2 (w.heap.size + 1 + 1) (.int .i64 0) (.int .i64 0) (.int .i64 0) (by go_size) (by simp [go_sem])
  have f0 : w2.frozen? ⟨w.heap.size + 1 + 1, 0, none⟩ = false := by rw [B2.frozen (by go_size)]; simp [go_sem]
  have f1 : w2.frozen? ⟨w.heap.size + 1 + 1, 1, none⟩ = false := by rw [B2.frozen (by go_size)]; simp [go_sem]
  have f2 : w2.frozen? ⟨w.heap.size + 1 + 1, 2, none⟩ = false := by rw [B2.frozen (by go_size)]; simp [go_sem]
  have B8 : Below w.heap.size w w2 := below_then (by go_grown) B2
  go_wp2
  exact bodyPost_ret (v := .tuple #[.agg #[.int .i64 (a - x), .int .i64 (b - y), .int .i64 (c - z)], .bool true]) (by simp [results, Tryz.results80, go_sem, *]) rfl ⟨rfl, by go_grown⟩
set_option maxHeartbeats 1000000 in
theorem specVecSub_no (a b c x y z : Int) (w : World) (h : subB a b c x y z = false)   :
    Calls Tryz.prog 80 #[.agg #[.int .i64 a, .int .i64 b, .int .i64 c], .agg #[.int .i64 x, .int .i64 y, .int .i64 z]] w fun e w' =>
      e = .returned (.tuple #[.agg #[.int .i64 0, .int .i64 0, .int .i64 0], .bool false]) ∧ Below w.heap.size w w' := by
  have Hn : Hid (fitB x y z a b c = _) := (fit_sub a b c x y z).trans h
  clear h
  go_enter Tryz.func80, Tryz.ntmps80
  go_wp2_with fail
  refine (specVecFits_c x y z a b c _).mono ?_
  rintro e w2 ⟨rfl, B2⟩
  rw [Hn.out]
  obtain ⟨r0, r1, r2⟩ := kept3 B2 (w.heap.size + 1) (.int .i64 x) (.int .i64 y) (.int .i64 z) (by go_size) (by simp [go_sem])
  obtain ⟨s0, s1, s2⟩ := kept3 B2 w.heap.size (.int .i64 a) (.int .i64 b) (.int .i64 c) (by go_size) (by simp [go_sem])
  obtain ⟨q0, q1, q2⟩ := kept3 B2 (w.heap.size + 1 + 1) (.int .i64 0) (.int .i64 0) (.int .i64 0) (by go_size) (by simp [go_sem])
  have f0 : w2.frozen? ⟨w.heap.size + 1 + 1, 0, none⟩ = false := by rw [B2.frozen (by go_size)]; simp [go_sem]
  have f1 : w2.frozen? ⟨w.heap.size + 1 + 1, 1, none⟩ = false := by rw [B2.frozen (by go_size)]; simp [go_sem]
  have f2 : w2.frozen? ⟨w.heap.size + 1 + 1, 2, none⟩ = false := by rw [B2.frozen (by go_size)]; simp [go_sem]
  have B8 : Below w.heap.size w w2 := below_then (by go_grown) B2
  go_wp2
  exact bodyPost_ret (v := .tuple #[.agg #[.int .i64 0, .int .i64 0, .int .i64 0], .bool false]) (by simp [results, Tryz.results80, go_sem, *]) rfl ⟨rfl, by go_grown⟩

set_option maxHeartbeats 1000000 in
theorem specVecMin_yes (a b c x y z : Int) (w : World) (h1 : vokB a b c = true) (h2 : vokB x y z = true) :
    Calls Tryz.prog 77 #[.agg #[.int .i64 a, .int .i64 b, .int .i64 c], .agg #[.int .i64 x, .int .i64 y, .int .i64 z]] w fun e w' =>
      e = .returned (.agg #[.int .i64 (min a x), .int .i64 (min b y), .int .i64 (min c z)]) ∧ Below w.heap.size w w' := by
  have Hn : Hid (vokB a b c = _) := h1
  have Hm : Hid (vokB x y z = _) := h2
  clear h1 h2
  go_enter Tryz.func77, Tryz.ntmps77
  go_wp2_with fail
  refine (specVecOk_c a b c _).mono ?_
  rintro e w1 ⟨rfl, hb1⟩
  rw [Hn.out]
  obtain ⟨d0, d1, d2⟩ := kept3 hb1 (w.heap.size + 1) (.int .i64 x) (.int .i64 y) (.int .i64 z) (by go_size) (by simp [go_sem])
  go_wp2_with fail
  refine (specVecOk_c x y z _).mono ?_
  rintro e w2 ⟨rfl, hb2⟩
  rw [Hm.out]
  have B2 := below_then hb1 hb2
  obtain ⟨r0, r1, r2⟩ := kept3 B2 (w.heap.size + 1) (.int .i64 x) (.int .i64 y) (.int .i64 z) (by go_size) (by simp [go_sem])
  obtain ⟨s0, s1, s2⟩ := kept3 B2 w.heap.size (.int .i64 a) (.int .i64 b) (.int .i64 c) (by go_size) (by simp [go_sem])
  obtain ⟨q0, q1, q2⟩ := kept3 B2 (w.heap.size + 1 + 1) (.int .i64 0) (.int .i64 0) (.int .i64 0) (by go_size) (by simp [go_sem])
  have f0 : w2.frozen? ⟨w.heap.size + 1 + 1, 0, none⟩ = false := by rw [B2.frozen (by go_size)]; simp [go_sem]
  have f1 : w2.frozen? ⟨w.heap.size + 1 + 1, 1, none⟩ = false := by rw [B2.frozen (by go_size)]; simp [go_sem]
  have f2 : w2.frozen? ⟨w.heap.size + 1 + 1, 2, none⟩ = false := by rw [B2.frozen (by go_size)]; simp [go_sem]
  have B8 : Below w.heap.size w w2 := below_then (by go_grown) B2
  have hne : w.heap.size + 1 + 1 ≠ w.heap.size := by omega
  have hne' : w.heap.size ≠ w.heap.size + 1 + 1 := by omega
  clear d0 d1 d2 hb1 hb2 B2
  go_wp2_with fail
  go_region_held3 (fun w' => w'.cell? ⟨w.heap.size, 0, none⟩ = some (.int .i64 a) ∧ w'.cell? ⟨w.heap.size, 1, none⟩ = some (.int .i64 b) ∧ w'.cell? ⟨w.heap.size, 2, none⟩ = some (.int .i64 c) ∧ w'.cell? ⟨w.heap.size + 1, 0, none⟩ = some (.int .i64 x) ∧ w'.cell? ⟨w.heap.size + 1, 1, none⟩ = some (.int .i64 y) ∧ w'.cell? ⟨w.heap.size + 1, 2, none⟩ = some (.int .i64 z)) (go_keep) ((go_at_call 104; refine (l01Min_c _ _ _).mono ?_; rintro e w' ⟨rfl, rfl⟩))
  go_wp2
  exact bodyPost_ret (v := .agg #[.int .i64 (min a x), .int .i64 (min b y), .int .i64 (min c z)]) (by simp [results, Tryz.results77, go_sem, *]) rfl ⟨rfl, by go_grown⟩
end Go.Proofs.YtmpjebkjopfejaaGreat
