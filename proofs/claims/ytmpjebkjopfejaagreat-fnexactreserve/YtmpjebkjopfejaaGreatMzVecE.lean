/- The pair: sum, difference, the lesser one of each. -/
import Derived.Test.YtmpjebkjopfejaaGreatMzVecD
import Derived.Deep.DeepCutAuto
import Derived.Deep.Light
namespace Go.Proofs.YtmpjebkjopfejaaGreat
open Go.ChangeShapes Go.WideShapes Go.ChangeAt Go.RowKit

theorem vok_iff {a b c : Int} : vokB a b c = true ↔ (0 ≤ a ∧ a ≤ 1000000) ∧ (0 ≤ b ∧ b ≤ 1000000) ∧ (0 ≤ c ∧ c ≤ 1000000) := by
  simp [vokB, resB, and_assoc]
theorem vok_min {a b c x y z : Int} (h1 : vokB a b c = true) (h2 : vokB x y z = true) : vokB (min a x) (min b y) (min c z) = true := by
  rw [vok_iff] at *; omega

/-- Two boxed vectors and a third block, whatever has been made behind them. -/
theorem held_three (w : World) (t : TypeId) (a b c x y z r s u : Value) (w' : World) (h : Below (((w.alloc (.cells #[a, b, c] t)).alloc (.cells #[x, y, z] t)).alloc (.cells #[r, s, u] t)).heap.size (((w.alloc (.cells #[a, b, c] t)).alloc (.cells #[x, y, z] t)).alloc (.cells #[r, s, u] t)) w') :
    Below (((w.alloc (.cells #[a, b, c] t)).alloc (.cells #[x, y, z] t)).alloc (.cells #[r, s, u] t)).heap.size (((w.alloc (.cells #[a, b, c] t)).alloc (.cells #[x, y, z] t)).alloc (.cells #[r, s, u] t)) w' ∧ (((w.alloc (.cells #[a, b, c] t)).alloc (.cells #[x, y, z] t)).alloc (.cells #[r, s, u] t)).heap.size ≤ w'.heap.size ∧ w'.cell? ⟨w.heap.size, 0, none⟩ = some a ∧ w'.cell? ⟨w.heap.size, 1, none⟩ = some b ∧ w'.cell? ⟨w.heap.size, 2, none⟩ = some c ∧ w'.cell? ⟨w.heap.size + 1, 0, none⟩ = some x ∧ w'.cell? ⟨w.heap.size + 1, 1, none⟩ = some y ∧ w'.cell? ⟨w.heap.size + 1, 2, none⟩ = some z := by
  obtain ⟨c0, c1, c2⟩ := kept3 h w.heap.size a b c (by go_size) (by simp [go_sem])
  obtain ⟨c3, c4, c5⟩ := kept3 h (w.heap.size + 1) x y z (by go_size) (by simp [go_sem])
  exact ⟨h, h.size, c0, c1, c2, c3, c4, c5⟩

set_option maxHeartbeats 4000000 in
theorem rightPair_lesser (a b c x y z : Int) (w : World) (h1 : vokB a b c = true) (h2 : vokB x y z = true) (k : Bool) (hk : vokB (min a x) (min b y) (min c z) = k) :
    Calls Tryz.prog 96 #[.agg #[.int .i64 a, .int .i64 b, .int .i64 c], .agg #[.int .i64 x, .int .i64 y, .int .i64 z], .func (.func 132) #[] #[]] w fun e w' =>
      e = .returned (.tuple #[.agg (bif k then #[.int .i64 (min a x), .int .i64 (min b y), .int .i64 (min c z)] else #[.int .i64 0, .int .i64 0, .int .i64 0]), .bool k]) ∧ Below w.heap.size w w' := by
  have Hn : Hid (vokB a b c = _) := h1
  have Hm : Hid (vokB x y z = _) := h2
  have Hk : Hid (vokB (min a x) (min b y) (min c z) = k) := hk
  clear h1 h2 hk
  go_enter Tryz.func96, Tryz.ntmps96
  go_wp2_with fail
  refine (implVecOk_c a b c _).mono ?_
  rintro e w1 ⟨rfl, hb1⟩
  rw [Hn.out]
  obtain ⟨c0, c1, c2⟩ := kept3 hb1 (w.heap.size + 1) (.int .i64 x) (.int .i64 y) (.int .i64 z) (by go_size) (by simp [go_sem])
  go_wp2_with fail
  refine (implVecOk_c x y z _).mono ?_
  rintro e w2 ⟨rfl, hb2⟩
  rw [Hm.out]
  have B2 := below_then hb1 hb2
  have z2 := B2.size
  have H2 : Hid (Below (((w.alloc (.cells #[.int .i64 a, .int .i64 b, .int .i64 c] 50)).alloc (.cells #[.int .i64 x, .int .i64 y, .int .i64 z] 50)).alloc (.cells #[.int .i64 0, .int .i64 0, .int .i64 0] 50)).heap.size (((w.alloc (.cells #[.int .i64 a, .int .i64 b, .int .i64 c] 50)).alloc (.cells #[.int .i64 x, .int .i64 y, .int .i64 z] 50)).alloc (.cells #[.int .i64 0, .int .i64 0, .int .i64 0] 50)) w2) := B2
  clear hb1 hb2 c0 c1 c2
  go_wp2_with fail
  go_cut [8] (fun p wc => ∃ blk : Nat, p = .pointer (some ⟨blk, 0, none⟩) ∧ Below (((w.alloc (.cells #[.int .i64 a, .int .i64 b, .int .i64 c] 50)).alloc (.cells #[.int .i64 x, .int .i64 y, .int .i64 z] 50)).alloc (.cells #[.int .i64 0, .int .i64 0, .int .i64 0] 50)).heap.size (((w.alloc (.cells #[.int .i64 a, .int .i64 b, .int .i64 c] 50)).alloc (.cells #[.int .i64 x, .int .i64 y, .int .i64 z] 50)).alloc (.cells #[.int .i64 0, .int .i64 0, .int .i64 0] 50)) wc ∧ blk < wc.heap.size ∧ wc.cell? ⟨blk, 0, none⟩ = some (.int .i64 (min a x)) ∧ wc.cell? ⟨blk, 1, none⟩ = some (.int .i64 (min b y)) ∧ wc.cell? ⟨blk, 2, none⟩ = some (.int .i64 (min c z)))
  case first =>
    go_region_held3 (fun w' => Below (((w.alloc (.cells #[.int .i64 a, .int .i64 b, .int .i64 c] 50)).alloc (.cells #[.int .i64 x, .int .i64 y, .int .i64 z] 50)).alloc (.cells #[.int .i64 0, .int .i64 0, .int .i64 0] 50)).heap.size (((w.alloc (.cells #[.int .i64 a, .int .i64 b, .int .i64 c] 50)).alloc (.cells #[.int .i64 x, .int .i64 y, .int .i64 z] 50)).alloc (.cells #[.int .i64 0, .int .i64 0, .int .i64 0] 50)) w' ∧ (((w.alloc (.cells #[.int .i64 a, .int .i64 b, .int .i64 c] 50)).alloc (.cells #[.int .i64 x, .int .i64 y, .int .i64 z] 50)).alloc (.cells #[.int .i64 0, .int .i64 0, .int .i64 0] 50)).heap.size ≤ w'.heap.size ∧ w'.cell? ⟨w.heap.size, 0, none⟩ = some (.int .i64 a) ∧ w'.cell? ⟨w.heap.size, 1, none⟩ = some (.int .i64 b) ∧ w'.cell? ⟨w.heap.size, 2, none⟩ = some (.int .i64 c) ∧ w'.cell? ⟨w.heap.size + 1, 0, none⟩ = some (.int .i64 x) ∧ w'.cell? ⟨w.heap.size + 1, 1, none⟩ = some (.int .i64 y) ∧ w'.cell? ⟨w.heap.size + 1, 2, none⟩ = some (.int .i64 z)) ((go_split_ands; refine held_three _ _ _ _ _ _ _ _ _ _ _ _ ?_; first | (exact Hid.out (by with_reducible assumption)) | (exact behind_alloc (Hid.out (by with_reducible assumption)) _) | (with_reducible assumption) | (exact behind (by with_reducible assumption) (by with_reducible assumption)) | (exact behind_alloc (by with_reducible assumption) _) | (repeat (refine Below.setCell ?_ (by with_reducible assumption) _)); (exact Hid.out (by with_reducible assumption)) | (go_grown; done)))
      (first
      | (go_at_call 122; refine (amounts_c _ _ _ _).mono ?_; rintro e w3 ⟨rfl, hb3⟩; have B3 : Hid (Below (((w.alloc (.cells #[.int .i64 a, .int .i64 b, .int .i64 c] 50)).alloc (.cells #[.int .i64 x, .int .i64 y, .int .i64 z] 50)).alloc (.cells #[.int .i64 0, .int .i64 0, .int .i64 0] 50)).heap.size (((w.alloc (.cells #[.int .i64 a, .int .i64 b, .int .i64 c] 50)).alloc (.cells #[.int .i64 x, .int .i64 y, .int .i64 z] 50)).alloc (.cells #[.int .i64 0, .int .i64 0, .int .i64 0] 50)) w3) := behind hb3 (And.left (by with_reducible assumption)); have z3 := B3.out.size; (first | have C := behind hb3 (by with_reducible assumption) | have C := hb3); obtain ⟨hc3, hf3, hz3⟩ := bfacts C)
      | (go_at_call 121; refine (pairwise_lesser _ _ _ _ _ _ _).mono ?_; rintro e w4 ⟨rfl, hb4⟩; have B4 : Hid (Below (((w.alloc (.cells #[.int .i64 a, .int .i64 b, .int .i64 c] 50)).alloc (.cells #[.int .i64 x, .int .i64 y, .int .i64 z] 50)).alloc (.cells #[.int .i64 0, .int .i64 0, .int .i64 0] 50)).heap.size (((w.alloc (.cells #[.int .i64 a, .int .i64 b, .int .i64 c] 50)).alloc (.cells #[.int .i64 x, .int .i64 y, .int .i64 z] 50)).alloc (.cells #[.int .i64 0, .int .i64 0, .int .i64 0] 50)) w4) := behind hb4 (And.left (by with_reducible assumption)); have z4 := B4.out.size; (first | have C := behind hb4 (by with_reducible assumption) | have C := hb4); obtain ⟨hc4, hf4, hz4⟩ := bfacts C)
      | (go_at_call 120; refine (vecOf_c _ _ _ _).mono ?_; rintro e w5 ⟨rfl, hb5⟩; have B5 : Hid (Below (((w.alloc (.cells #[.int .i64 a, .int .i64 b, .int .i64 c] 50)).alloc (.cells #[.int .i64 x, .int .i64 y, .int .i64 z] 50)).alloc (.cells #[.int .i64 0, .int .i64 0, .int .i64 0] 50)).heap.size (((w.alloc (.cells #[.int .i64 a, .int .i64 b, .int .i64 c] 50)).alloc (.cells #[.int .i64 x, .int .i64 y, .int .i64 z] 50)).alloc (.cells #[.int .i64 0, .int .i64 0, .int .i64 0] 50)) w5) := behind hb5 (And.left (by with_reducible assumption)); have z5 := B5.out.size; (first | have C := behind hb5 (by with_reducible assumption) | have C := hb5); obtain ⟨hc5, hf5, hz5⟩ := bfacts C))
    all_goals
      go_split_ands
      go_wp2_with fail
      go_meet
      case rel =>
        refine ⟨_, rfl, by with_reducible assumption, ?_, ?_, ?_, ?_⟩
        all_goals go_light
        all_goals first | (simp [*]; done) | (simp [*, go_sem]; done) | go_cell
  case rest =>
    obtain ⟨blk, rfl, B3, hlt, d0, d1, d2⟩ := hcut
    clear B2 z2 H2
    go_wp2_with fail
    refine (implVecOk_c _ _ _ _).mono ?_
    rintro e w6 ⟨rfl, hb6⟩
    have B7 := behind hb6 B3
    rw [Hk.out]
    obtain ⟨q0, q1, q2⟩ := kept3 B7 (w.heap.size + 1 + 1) (.int .i64 0) (.int .i64 0) (.int .i64 0) (by go_size) (by simp [go_sem])
    obtain ⟨d3, d4, d5⟩ := kept3 hb6 blk _ _ _ hlt ⟨d0, d1, d2⟩
    have f0 : w6.frozen? ⟨w.heap.size + 1 + 1, 0, none⟩ = false := by rw [B7.frozen (by go_size)]; simp [go_sem]
    have f1 : w6.frozen? ⟨w.heap.size + 1 + 1, 1, none⟩ = false := by rw [B7.frozen (by go_size)]; simp [go_sem]
    have f2 : w6.frozen? ⟨w.heap.size + 1 + 1, 2, none⟩ = false := by rw [B7.frozen (by go_size)]; simp [go_sem]
    clear hb6 d0 d1 d2 B3 hlt
    have B8 : Below w.heap.size w w6 := below_then (by go_grown) B7
    cases k
    · go_wp2
      exact bodyPost_ret (v := .tuple #[.agg #[.int .i64 0, .int .i64 0, .int .i64 0], .bool false]) (by simp [results, Tryz.results96, go_sem, *]) rfl ⟨rfl, by go_grown⟩
    · go_wp2
      exact bodyPost_ret (v := .tuple #[.agg #[.int .i64 (min a x), .int .i64 (min b y), .int .i64 (min c z)], .bool true]) (by simp [results, Tryz.results96, go_sem, *]) rfl ⟨rfl, by go_grown⟩

set_option maxHeartbeats 4000000 in
theorem rightPair_lesser_no (a b c x y z : Int) (w : World) (h : (vokB a b c && vokB x y z) = false) :
    Calls Tryz.prog 96 #[.agg #[.int .i64 a, .int .i64 b, .int .i64 c], .agg #[.int .i64 x, .int .i64 y, .int .i64 z], .func (.func 132) #[] #[]] w fun e w' =>
      e = .returned (.tuple #[.agg #[.int .i64 0, .int .i64 0, .int .i64 0], .bool false]) ∧ Below w.heap.size w w' := by
  cases h1 : vokB a b c
  · have Hn : Hid (vokB a b c = _) := h1
    clear h1 h
    go_enter Tryz.func96, Tryz.ntmps96
    go_wp2_with fail
    refine (implVecOk_c a b c _).mono ?_
    rintro e w1 ⟨rfl, hb1⟩
    rw [Hn.out]
    obtain ⟨q0, q1, q2⟩ := kept3 hb1 (w.heap.size + 1 + 1) (.int .i64 0) (.int .i64 0) (.int .i64 0) (by go_size) (by simp [go_sem])
    have f0 : w1.frozen? ⟨w.heap.size + 1 + 1, 0, none⟩ = false := by rw [hb1.frozen (by go_size)]; simp [go_sem]
    have f1 : w1.frozen? ⟨w.heap.size + 1 + 1, 1, none⟩ = false := by rw [hb1.frozen (by go_size)]; simp [go_sem]
    have f2 : w1.frozen? ⟨w.heap.size + 1 + 1, 2, none⟩ = false := by rw [hb1.frozen (by go_size)]; simp [go_sem]
    have B8 : Below w.heap.size w w1 := below_then (by go_grown) hb1
    go_wp2
    exact bodyPost_ret (v := .tuple #[.agg #[.int .i64 0, .int .i64 0, .int .i64 0], .bool false]) (by simp [results, Tryz.results96, go_sem, *]) rfl ⟨rfl, by go_grown⟩
  · have h2 : vokB x y z = false := by rw [h1] at h; simpa using h
    have Hn : Hid (vokB a b c = _) := h1
    have Hm : Hid (vokB x y z = _) := h2
    clear h1 h h2
    go_enter Tryz.func96, Tryz.ntmps96
    go_wp2_with fail
    refine (implVecOk_c a b c _).mono ?_
    rintro e w1 ⟨rfl, hb1⟩
    rw [Hn.out]
    obtain ⟨c0, c1, c2⟩ := kept3 hb1 (w.heap.size + 1) (.int .i64 x) (.int .i64 y) (.int .i64 z) (by go_size) (by simp [go_sem])
    go_wp2_with fail
    refine (implVecOk_c x y z _).mono ?_
    rintro e w2 ⟨rfl, hb2⟩
    rw [Hm.out]
    have B2 := below_then hb1 hb2
    obtain ⟨q0, q1, q2⟩ := kept3 B2 (w.heap.size + 1 + 1) (.int .i64 0) (.int .i64 0) (.int .i64 0) (by go_size) (by simp [go_sem])
    have f0 : w2.frozen? ⟨w.heap.size + 1 + 1, 0, none⟩ = false := by rw [B2.frozen (by go_size)]; simp [go_sem]
    have f1 : w2.frozen? ⟨w.heap.size + 1 + 1, 1, none⟩ = false := by rw [B2.frozen (by go_size)]; simp [go_sem]
    have f2 : w2.frozen? ⟨w.heap.size + 1 + 1, 2, none⟩ = false := by rw [B2.frozen (by go_size)]; simp [go_sem]
    have B8 : Below w.heap.size w w2 := below_then (by go_grown) B2
    go_wp2
    exact bodyPost_ret (v := .tuple #[.agg #[.int .i64 0, .int .i64 0, .int .i64 0], .bool false]) (by simp [results, Tryz.results96, go_sem, *]) rfl ⟨rfl, by go_grown⟩
set_option maxHeartbeats 4000000 in
theorem rightPair_sum (a b c x y z : Int) (w : World) (h1 : vokB a b c = true) (h2 : vokB x y z = true) (k : Bool) (hk : vokB (wrap64 (a + x)) (wrap64 (b + y)) (wrap64 (c + z)) = k) :
    Calls Tryz.prog 96 #[.agg #[.int .i64 a, .int .i64 b, .int .i64 c], .agg #[.int .i64 x, .int .i64 y, .int .i64 z], .func (.func 100) #[] #[]] w fun e w' =>
      e = .returned (.tuple #[.agg (bif k then #[.int .i64 (wrap64 (a + x)), .int .i64 (wrap64 (b + y)), .int .i64 (wrap64 (c + z))] else #[.int .i64 0, .int .i64 0, .int .i64 0]), .bool k]) ∧ Below w.heap.size w w' := by
  have Hn : Hid (vokB a b c = _) := h1
  have Hm : Hid (vokB x y z = _) := h2
  have Hk : Hid (vokB (wrap64 (a + x)) (wrap64 (b + y)) (wrap64 (c + z)) = k) := hk
  clear h1 h2 hk
  go_enter Tryz.func96, Tryz.ntmps96
  go_wp2_with fail
  refine (implVecOk_c a b c _).mono ?_
  rintro e w1 ⟨rfl, hb1⟩
  rw [Hn.out]
  obtain ⟨c0, c1, c2⟩ := kept3 hb1 (w.heap.size + 1) (.int .i64 x) (.int .i64 y) (.int .i64 z) (by go_size) (by simp [go_sem])
  go_wp2_with fail
  refine (implVecOk_c x y z _).mono ?_
  rintro e w2 ⟨rfl, hb2⟩
  rw [Hm.out]
  have B2 := below_then hb1 hb2
  have z2 := B2.size
  have H2 : Hid (Below (((w.alloc (.cells #[.int .i64 a, .int .i64 b, .int .i64 c] 50)).alloc (.cells #[.int .i64 x, .int .i64 y, .int .i64 z] 50)).alloc (.cells #[.int .i64 0, .int .i64 0, .int .i64 0] 50)).heap.size (((w.alloc (.cells #[.int .i64 a, .int .i64 b, .int .i64 c] 50)).alloc (.cells #[.int .i64 x, .int .i64 y, .int .i64 z] 50)).alloc (.cells #[.int .i64 0, .int .i64 0, .int .i64 0] 50)) w2) := B2
  clear hb1 hb2 c0 c1 c2
  go_wp2_with fail
  go_cut [8] (fun p wc => ∃ blk : Nat, p = .pointer (some ⟨blk, 0, none⟩) ∧ Below (((w.alloc (.cells #[.int .i64 a, .int .i64 b, .int .i64 c] 50)).alloc (.cells #[.int .i64 x, .int .i64 y, .int .i64 z] 50)).alloc (.cells #[.int .i64 0, .int .i64 0, .int .i64 0] 50)).heap.size (((w.alloc (.cells #[.int .i64 a, .int .i64 b, .int .i64 c] 50)).alloc (.cells #[.int .i64 x, .int .i64 y, .int .i64 z] 50)).alloc (.cells #[.int .i64 0, .int .i64 0, .int .i64 0] 50)) wc ∧ blk < wc.heap.size ∧ wc.cell? ⟨blk, 0, none⟩ = some (.int .i64 (wrap64 (a + x))) ∧ wc.cell? ⟨blk, 1, none⟩ = some (.int .i64 (wrap64 (b + y))) ∧ wc.cell? ⟨blk, 2, none⟩ = some (.int .i64 (wrap64 (c + z))))
  case first =>
    go_region_held3 (fun w' => Below (((w.alloc (.cells #[.int .i64 a, .int .i64 b, .int .i64 c] 50)).alloc (.cells #[.int .i64 x, .int .i64 y, .int .i64 z] 50)).alloc (.cells #[.int .i64 0, .int .i64 0, .int .i64 0] 50)).heap.size (((w.alloc (.cells #[.int .i64 a, .int .i64 b, .int .i64 c] 50)).alloc (.cells #[.int .i64 x, .int .i64 y, .int .i64 z] 50)).alloc (.cells #[.int .i64 0, .int .i64 0, .int .i64 0] 50)) w' ∧ (((w.alloc (.cells #[.int .i64 a, .int .i64 b, .int .i64 c] 50)).alloc (.cells #[.int .i64 x, .int .i64 y, .int .i64 z] 50)).alloc (.cells #[.int .i64 0, .int .i64 0, .int .i64 0] 50)).heap.size ≤ w'.heap.size ∧ w'.cell? ⟨w.heap.size, 0, none⟩ = some (.int .i64 a) ∧ w'.cell? ⟨w.heap.size, 1, none⟩ = some (.int .i64 b) ∧ w'.cell? ⟨w.heap.size, 2, none⟩ = some (.int .i64 c) ∧ w'.cell? ⟨w.heap.size + 1, 0, none⟩ = some (.int .i64 x) ∧ w'.cell? ⟨w.heap.size + 1, 1, none⟩ = some (.int .i64 y) ∧ w'.cell? ⟨w.heap.size + 1, 2, none⟩ = some (.int .i64 z)) ((go_split_ands; refine held_three _ _ _ _ _ _ _ _ _ _ _ _ ?_; first | (exact Hid.out (by with_reducible assumption)) | (exact behind_alloc (Hid.out (by with_reducible assumption)) _) | (with_reducible assumption) | (exact behind (by with_reducible assumption) (by with_reducible assumption)) | (exact behind_alloc (by with_reducible assumption) _) | (repeat (refine Below.setCell ?_ (by with_reducible assumption) _)); (exact Hid.out (by with_reducible assumption)) | (go_grown; done)))
      (first
      | (go_at_call 122; refine (amounts_c _ _ _ _).mono ?_; rintro e w3 ⟨rfl, hb3⟩; have B3 : Hid (Below (((w.alloc (.cells #[.int .i64 a, .int .i64 b, .int .i64 c] 50)).alloc (.cells #[.int .i64 x, .int .i64 y, .int .i64 z] 50)).alloc (.cells #[.int .i64 0, .int .i64 0, .int .i64 0] 50)).heap.size (((w.alloc (.cells #[.int .i64 a, .int .i64 b, .int .i64 c] 50)).alloc (.cells #[.int .i64 x, .int .i64 y, .int .i64 z] 50)).alloc (.cells #[.int .i64 0, .int .i64 0, .int .i64 0] 50)) w3) := behind hb3 (And.left (by with_reducible assumption)); have z3 := B3.out.size; (first | have C := behind hb3 (by with_reducible assumption) | have C := hb3); obtain ⟨hc3, hf3, hz3⟩ := bfacts C)
      | (go_at_call 121; refine (pairwise_sum _ _ _ _ _ _ _).mono ?_; rintro e w4 ⟨rfl, hb4⟩; have B4 : Hid (Below (((w.alloc (.cells #[.int .i64 a, .int .i64 b, .int .i64 c] 50)).alloc (.cells #[.int .i64 x, .int .i64 y, .int .i64 z] 50)).alloc (.cells #[.int .i64 0, .int .i64 0, .int .i64 0] 50)).heap.size (((w.alloc (.cells #[.int .i64 a, .int .i64 b, .int .i64 c] 50)).alloc (.cells #[.int .i64 x, .int .i64 y, .int .i64 z] 50)).alloc (.cells #[.int .i64 0, .int .i64 0, .int .i64 0] 50)) w4) := behind hb4 (And.left (by with_reducible assumption)); have z4 := B4.out.size; (first | have C := behind hb4 (by with_reducible assumption) | have C := hb4); obtain ⟨hc4, hf4, hz4⟩ := bfacts C)
      | (go_at_call 120; refine (vecOf_c _ _ _ _).mono ?_; rintro e w5 ⟨rfl, hb5⟩; have B5 : Hid (Below (((w.alloc (.cells #[.int .i64 a, .int .i64 b, .int .i64 c] 50)).alloc (.cells #[.int .i64 x, .int .i64 y, .int .i64 z] 50)).alloc (.cells #[.int .i64 0, .int .i64 0, .int .i64 0] 50)).heap.size (((w.alloc (.cells #[.int .i64 a, .int .i64 b, .int .i64 c] 50)).alloc (.cells #[.int .i64 x, .int .i64 y, .int .i64 z] 50)).alloc (.cells #[.int .i64 0, .int .i64 0, .int .i64 0] 50)) w5) := behind hb5 (And.left (by with_reducible assumption)); have z5 := B5.out.size; (first | have C := behind hb5 (by with_reducible assumption) | have C := hb5); obtain ⟨hc5, hf5, hz5⟩ := bfacts C))
    all_goals
      go_split_ands
      go_wp2_with fail
      go_meet
      case rel =>
        refine ⟨_, rfl, by with_reducible assumption, ?_, ?_, ?_, ?_⟩
        all_goals go_light
        all_goals first | (simp [*]; done) | (simp [*, go_sem]; done) | go_cell
  case rest =>
    obtain ⟨blk, rfl, B3, hlt, d0, d1, d2⟩ := hcut
    clear B2 z2 H2
    go_wp2_with fail
    refine (implVecOk_c _ _ _ _).mono ?_
    rintro e w6 ⟨rfl, hb6⟩
    have B7 := behind hb6 B3
    rw [Hk.out]
    obtain ⟨q0, q1, q2⟩ := kept3 B7 (w.heap.size + 1 + 1) (.int .i64 0) (.int .i64 0) (.int .i64 0) (by go_size) (by simp [go_sem])
    obtain ⟨d3, d4, d5⟩ := kept3 hb6 blk _ _ _ hlt ⟨d0, d1, d2⟩
    have f0 : w6.frozen? ⟨w.heap.size + 1 + 1, 0, none⟩ = false := by rw [B7.frozen (by go_size)]; simp [go_sem]
    have f1 : w6.frozen? ⟨w.heap.size + 1 + 1, 1, none⟩ = false := by rw [B7.frozen (by go_size)]; simp [go_sem]
    have f2 : w6.frozen? ⟨w.heap.size + 1 + 1, 2, none⟩ = false := by rw [B7.frozen (by go_size)]; simp [go_sem]
    clear hb6 d0 d1 d2 B3 hlt
    have B8 : Below w.heap.size w w6 := below_then (by go_grown) B7
    cases k
    · go_wp2
      exact bodyPost_ret (v := .tuple #[.agg #[.int .i64 0, .int .i64 0, .int .i64 0], .bool false]) (by simp [results, Tryz.results96, go_sem, *]) rfl ⟨rfl, by go_grown⟩
    · go_wp2
      exact bodyPost_ret (v := .tuple #[.agg #[.int .i64 (wrap64 (a + x)), .int .i64 (wrap64 (b + y)), .int .i64 (wrap64 (c + z))], .bool true]) (by simp [results, Tryz.results96, go_sem, *]) rfl ⟨rfl, by go_grown⟩

set_option maxHeartbeats 4000000 in
theorem rightPair_sum_no (a b c x y z : Int) (w : World) (h : (vokB a b c && vokB x y z) = false) :
    Calls Tryz.prog 96 #[.agg #[.int .i64 a, .int .i64 b, .int .i64 c], .agg #[.int .i64 x, .int .i64 y, .int .i64 z], .func (.func 100) #[] #[]] w fun e w' =>
      e = .returned (.tuple #[.agg #[.int .i64 0, .int .i64 0, .int .i64 0], .bool false]) ∧ Below w.heap.size w w' := by
  cases h1 : vokB a b c
  · have Hn : Hid (vokB a b c = _) := h1
    clear h1 h
    go_enter Tryz.func96, Tryz.ntmps96
    go_wp2_with fail
    refine (implVecOk_c a b c _).mono ?_
    rintro e w1 ⟨rfl, hb1⟩
    rw [Hn.out]
    obtain ⟨q0, q1, q2⟩ := kept3 hb1 (w.heap.size + 1 + 1) (.int .i64 0) (.int .i64 0) (.int .i64 0) (by go_size) (by simp [go_sem])
    have f0 : w1.frozen? ⟨w.heap.size + 1 + 1, 0, none⟩ = false := by rw [hb1.frozen (by go_size)]; simp [go_sem]
    have f1 : w1.frozen? ⟨w.heap.size + 1 + 1, 1, none⟩ = false := by rw [hb1.frozen (by go_size)]; simp [go_sem]
    have f2 : w1.frozen? ⟨w.heap.size + 1 + 1, 2, none⟩ = false := by rw [hb1.frozen (by go_size)]; simp [go_sem]
    have B8 : Below w.heap.size w w1 := below_then (by go_grown) hb1
    go_wp2
    exact bodyPost_ret (v := .tuple #[.agg #[.int .i64 0, .int .i64 0, .int .i64 0], .bool false]) (by simp [results, Tryz.results96, go_sem, *]) rfl ⟨rfl, by go_grown⟩
  · have h2 : vokB x y z = false := by rw [h1] at h; simpa using h
    have Hn : Hid (vokB a b c = _) := h1
    have Hm : Hid (vokB x y z = _) := h2
    clear h1 h h2
    go_enter Tryz.func96, Tryz.ntmps96
    go_wp2_with fail
    refine (implVecOk_c a b c _).mono ?_
    rintro e w1 ⟨rfl, hb1⟩
    rw [Hn.out]
    obtain ⟨c0, c1, c2⟩ := kept3 hb1 (w.heap.size + 1) (.int .i64 x) (.int .i64 y) (.int .i64 z) (by go_size) (by simp [go_sem])
    go_wp2_with fail
    refine (implVecOk_c x y z _).mono ?_
    rintro e w2 ⟨rfl, hb2⟩
    rw [Hm.out]
    have B2 := below_then hb1 hb2
    obtain ⟨q0, q1, q2⟩ := kept3 B2 (w.heap.size + 1 + 1) (.int .i64 0) (.int .i64 0) (.int .i64 0) (by go_size) (by simp [go_sem])
    have f0 : w2.frozen? ⟨w.heap.size + 1 + 1, 0, none⟩ = false := by rw [B2.frozen (by go_size)]; simp [go_sem]
    have f1 : w2.frozen? ⟨w.heap.size + 1 + 1, 1, none⟩ = false := by rw [B2.frozen (by go_size)]; simp [go_sem]
    have f2 : w2.frozen? ⟨w.heap.size + 1 + 1, 2, none⟩ = false := by rw [B2.frozen (by go_size)]; simp [go_sem]
    have B8 : Below w.heap.size w w2 := below_then (by go_grown) B2
    go_wp2
    exact bodyPost_ret (v := .tuple #[.agg #[.int .i64 0, .int .i64 0, .int .i64 0], .bool false]) (by simp [results, Tryz.results96, go_sem, *]) rfl ⟨rfl, by go_grown⟩
set_option maxHeartbeats 4000000 in
theorem rightPair_difference (a b c x y z : Int) (w : World) (h1 : vokB a b c = true) (h2 : vokB x y z = true) (k : Bool) (hk : vokB (wrap64 (a - x)) (wrap64 (b - y)) (wrap64 (c - z)) = k) :
    Calls Tryz.prog 96 #[.agg #[.int .i64 a, .int .i64 b, .int .i64 c], .agg #[.int .i64 x, .int .i64 y, .int .i64 z], .func (.func 97) #[] #[]] w fun e w' =>
      e = .returned (.tuple #[.agg (bif k then #[.int .i64 (wrap64 (a - x)), .int .i64 (wrap64 (b - y)), .int .i64 (wrap64 (c - z))] else #[.int .i64 0, .int .i64 0, .int .i64 0]), .bool k]) ∧ Below w.heap.size w w' := by
  have Hn : Hid (vokB a b c = _) := h1
  have Hm : Hid (vokB x y z = _) := h2
  have Hk : Hid (vokB (wrap64 (a - x)) (wrap64 (b - y)) (wrap64 (c - z)) = k) := hk
  clear h1 h2 hk
  go_enter Tryz.func96, Tryz.ntmps96
  go_wp2_with fail
  refine (implVecOk_c a b c _).mono ?_
  rintro e w1 ⟨rfl, hb1⟩
  rw [Hn.out]
  obtain ⟨c0, c1, c2⟩ := kept3 hb1 (w.heap.size + 1) (.int .i64 x) (.int .i64 y) (.int .i64 z) (by go_size) (by simp [go_sem])
  go_wp2_with fail
  refine (implVecOk_c x y z _).mono ?_
  rintro e w2 ⟨rfl, hb2⟩
  rw [Hm.out]
  have B2 := below_then hb1 hb2
  have z2 := B2.size
  have H2 : Hid (Below (((w.alloc (.cells #[.int .i64 a, .int .i64 b, .int .i64 c] 50)).alloc (.cells #[.int .i64 x, .int .i64 y, .int .i64 z] 50)).alloc (.cells #[.int .i64 0, .int .i64 0, .int .i64 0] 50)).heap.size (((w.alloc (.cells #[.int .i64 a, .int .i64 b, .int .i64 c] 50)).alloc (.cells #[.int .i64 x, .int .i64 y, .int .i64 z] 50)).alloc (.cells #[.int .i64 0, .int .i64 0, .int .i64 0] 50)) w2) := B2
  clear hb1 hb2 c0 c1 c2
  go_wp2_with fail
  go_cut [8] (fun p wc => ∃ blk : Nat, p = .pointer (some ⟨blk, 0, none⟩) ∧ Below (((w.alloc (.cells #[.int .i64 a, .int .i64 b, .int .i64 c] 50)).alloc (.cells #[.int .i64 x, .int .i64 y, .int .i64 z] 50)).alloc (.cells #[.int .i64 0, .int .i64 0, .int .i64 0] 50)).heap.size (((w.alloc (.cells #[.int .i64 a, .int .i64 b, .int .i64 c] 50)).alloc (.cells #[.int .i64 x, .int .i64 y, .int .i64 z] 50)).alloc (.cells #[.int .i64 0, .int .i64 0, .int .i64 0] 50)) wc ∧ blk < wc.heap.size ∧ wc.cell? ⟨blk, 0, none⟩ = some (.int .i64 (wrap64 (a - x))) ∧ wc.cell? ⟨blk, 1, none⟩ = some (.int .i64 (wrap64 (b - y))) ∧ wc.cell? ⟨blk, 2, none⟩ = some (.int .i64 (wrap64 (c - z))))
  case first =>
    go_region_held3 (fun w' => Below (((w.alloc (.cells #[.int .i64 a, .int .i64 b, .int .i64 c] 50)).alloc (.cells #[.int .i64 x, .int .i64 y, .int .i64 z] 50)).alloc (.cells #[.int .i64 0, .int .i64 0, .int .i64 0] 50)).heap.size (((w.alloc (.cells #[.int .i64 a, .int .i64 b, .int .i64 c] 50)).alloc (.cells #[.int .i64 x, .int .i64 y, .int .i64 z] 50)).alloc (.cells #[.int .i64 0, .int .i64 0, .int .i64 0] 50)) w' ∧ (((w.alloc (.cells #[.int .i64 a, .int .i64 b, .int .i64 c] 50)).alloc (.cells #[.int .i64 x, .int .i64 y, .int .i64 z] 50)).alloc (.cells #[.int .i64 0, .int .i64 0, .int .i64 0] 50)).heap.size ≤ w'.heap.size ∧ w'.cell? ⟨w.heap.size, 0, none⟩ = some (.int .i64 a) ∧ w'.cell? ⟨w.heap.size, 1, none⟩ = some (.int .i64 b) ∧ w'.cell? ⟨w.heap.size, 2, none⟩ = some (.int .i64 c) ∧ w'.cell? ⟨w.heap.size + 1, 0, none⟩ = some (.int .i64 x) ∧ w'.cell? ⟨w.heap.size + 1, 1, none⟩ = some (.int .i64 y) ∧ w'.cell? ⟨w.heap.size + 1, 2, none⟩ = some (.int .i64 z)) ((go_split_ands; refine held_three _ _ _ _ _ _ _ _ _ _ _ _ ?_; first | (exact Hid.out (by with_reducible assumption)) | (exact behind_alloc (Hid.out (by with_reducible assumption)) _) | (with_reducible assumption) | (exact behind (by with_reducible assumption) (by with_reducible assumption)) | (exact behind_alloc (by with_reducible assumption) _) | (repeat (refine Below.setCell ?_ (by with_reducible assumption) _)); (exact Hid.out (by with_reducible assumption)) | (go_grown; done)))
      (first
      | (go_at_call 122; refine (amounts_c _ _ _ _).mono ?_; rintro e w3 ⟨rfl, hb3⟩; have B3 : Hid (Below (((w.alloc (.cells #[.int .i64 a, .int .i64 b, .int .i64 c] 50)).alloc (.cells #[.int .i64 x, .int .i64 y, .int .i64 z] 50)).alloc (.cells #[.int .i64 0, .int .i64 0, .int .i64 0] 50)).heap.size (((w.alloc (.cells #[.int .i64 a, .int .i64 b, .int .i64 c] 50)).alloc (.cells #[.int .i64 x, .int .i64 y, .int .i64 z] 50)).alloc (.cells #[.int .i64 0, .int .i64 0, .int .i64 0] 50)) w3) := behind hb3 (And.left (by with_reducible assumption)); have z3 := B3.out.size; (first | have C := behind hb3 (by with_reducible assumption) | have C := hb3); obtain ⟨hc3, hf3, hz3⟩ := bfacts C)
      | (go_at_call 121; refine (pairwise_difference _ _ _ _ _ _ _).mono ?_; rintro e w4 ⟨rfl, hb4⟩; have B4 : Hid (Below (((w.alloc (.cells #[.int .i64 a, .int .i64 b, .int .i64 c] 50)).alloc (.cells #[.int .i64 x, .int .i64 y, .int .i64 z] 50)).alloc (.cells #[.int .i64 0, .int .i64 0, .int .i64 0] 50)).heap.size (((w.alloc (.cells #[.int .i64 a, .int .i64 b, .int .i64 c] 50)).alloc (.cells #[.int .i64 x, .int .i64 y, .int .i64 z] 50)).alloc (.cells #[.int .i64 0, .int .i64 0, .int .i64 0] 50)) w4) := behind hb4 (And.left (by with_reducible assumption)); have z4 := B4.out.size; (first | have C := behind hb4 (by with_reducible assumption) | have C := hb4); obtain ⟨hc4, hf4, hz4⟩ := bfacts C)
      | (go_at_call 120; refine (vecOf_c _ _ _ _).mono ?_; rintro e w5 ⟨rfl, hb5⟩; have B5 : Hid (Below (((w.alloc (.cells #[.int .i64 a, .int .i64 b, .int .i64 c] 50)).alloc (.cells #[.int .i64 x, .int .i64 y, .int .i64 z] 50)).alloc (.cells #[.int .i64 0, .int .i64 0, .int .i64 0] 50)).heap.size (((w.alloc (.cells #[.int .i64 a, .int .i64 b, .int .i64 c] 50)).alloc (.cells #[.int .i64 x, .int .i64 y, .int .i64 z] 50)).alloc (.cells #[.int .i64 0, .int .i64 0, .int .i64 0] 50)) w5) := behind hb5 (And.left (by with_reducible assumption)); have z5 := B5.out.size; (first | have C := behind hb5 (by with_reducible assumption) | have C := hb5); obtain ⟨hc5, hf5, hz5⟩ := bfacts C))
    all_goals
      go_split_ands
      go_wp2_with fail
      go_meet
      case rel =>
        refine ⟨_, rfl, by with_reducible assumption, ?_, ?_, ?_, ?_⟩
        all_goals go_light
        all_goals first | (simp [*]; done) | (simp [*, go_sem]; done) | go_cell
  case rest =>
    obtain ⟨blk, rfl, B3, hlt, d0, d1, d2⟩ := hcut
    clear B2 z2 H2
    go_wp2_with fail
    refine (implVecOk_c _ _ _ _).mono ?_
    rintro e w6 ⟨rfl, hb6⟩
    have B7 := behind hb6 B3
    rw [Hk.out]
    obtain ⟨q0, q1, q2⟩ := kept3 B7 (w.heap.size + 1 + 1) (.int .i64 0) (.int .i64 0) (.int .i64 0) (by go_size) (by simp [go_sem])
    obtain ⟨d3, d4, d5⟩ := kept3 hb6 blk _ _ _ hlt ⟨d0, d1, d2⟩
    have f0 : w6.frozen? ⟨w.heap.size + 1 + 1, 0, none⟩ = false := by rw [B7.frozen (by go_size)]; simp [go_sem]
    have f1 : w6.frozen? ⟨w.heap.size + 1 + 1, 1, none⟩ = false := by rw [B7.frozen (by go_size)]; simp [go_sem]
    have f2 : w6.frozen? ⟨w.heap.size + 1 + 1, 2, none⟩ = false := by rw [B7.frozen (by go_size)]; simp [go_sem]
    clear hb6 d0 d1 d2 B3 hlt
    have B8 : Below w.heap.size w w6 := below_then (by go_grown) B7
    cases k
    · go_wp2
      exact bodyPost_ret (v := .tuple #[.agg #[.int .i64 0, .int .i64 0, .int .i64 0], .bool false]) (by simp [results, Tryz.results96, go_sem, *]) rfl ⟨rfl, by go_grown⟩
    · go_wp2
      exact bodyPost_ret (v := .tuple #[.agg #[.int .i64 (wrap64 (a - x)), .int .i64 (wrap64 (b - y)), .int .i64 (wrap64 (c - z))], .bool true]) (by simp [results, Tryz.results96, go_sem, *]) rfl ⟨rfl, by go_grown⟩

set_option maxHeartbeats 4000000 in
theorem rightPair_difference_no (a b c x y z : Int) (w : World) (h : (vokB a b c && vokB x y z) = false) :
    Calls Tryz.prog 96 #[.agg #[.int .i64 a, .int .i64 b, .int .i64 c], .agg #[.int .i64 x, .int .i64 y, .int .i64 z], .func (.func 97) #[] #[]] w fun e w' =>
      e = .returned (.tuple #[.agg #[.int .i64 0, .int .i64 0, .int .i64 0], .bool false]) ∧ Below w.heap.size w w' := by
  cases h1 : vokB a b c
  · have Hn : Hid (vokB a b c = _) := h1
    clear h1 h
    go_enter Tryz.func96, Tryz.ntmps96
    go_wp2_with fail
    refine (implVecOk_c a b c _).mono ?_
    rintro e w1 ⟨rfl, hb1⟩
    rw [Hn.out]
    obtain ⟨q0, q1, q2⟩ := kept3 hb1 (w.heap.size + 1 + 1) (.int .i64 0) (.int .i64 0) (.int .i64 0) (by go_size) (by simp [go_sem])
    have f0 : w1.frozen? ⟨w.heap.size + 1 + 1, 0, none⟩ = false := by rw [hb1.frozen (by go_size)]; simp [go_sem]
    have f1 : w1.frozen? ⟨w.heap.size + 1 + 1, 1, none⟩ = false := by rw [hb1.frozen (by go_size)]; simp [go_sem]
    have f2 : w1.frozen? ⟨w.heap.size + 1 + 1, 2, none⟩ = false := by rw [hb1.frozen (by go_size)]; simp [go_sem]
    have B8 : Below w.heap.size w w1 := below_then (by go_grown) hb1
    go_wp2
    exact bodyPost_ret (v := .tuple #[.agg #[.int .i64 0, .int .i64 0, .int .i64 0], .bool false]) (by simp [results, Tryz.results96, go_sem, *]) rfl ⟨rfl, by go_grown⟩
  · have h2 : vokB x y z = false := by rw [h1] at h; simpa using h
    have Hn : Hid (vokB a b c = _) := h1
    have Hm : Hid (vokB x y z = _) := h2
    clear h1 h h2
    go_enter Tryz.func96, Tryz.ntmps96
    go_wp2_with fail
    refine (implVecOk_c a b c _).mono ?_
    rintro e w1 ⟨rfl, hb1⟩
    rw [Hn.out]
    obtain ⟨c0, c1, c2⟩ := kept3 hb1 (w.heap.size + 1) (.int .i64 x) (.int .i64 y) (.int .i64 z) (by go_size) (by simp [go_sem])
    go_wp2_with fail
    refine (implVecOk_c x y z _).mono ?_
    rintro e w2 ⟨rfl, hb2⟩
    rw [Hm.out]
    have B2 := below_then hb1 hb2
    obtain ⟨q0, q1, q2⟩ := kept3 B2 (w.heap.size + 1 + 1) (.int .i64 0) (.int .i64 0) (.int .i64 0) (by go_size) (by simp [go_sem])
    have f0 : w2.frozen? ⟨w.heap.size + 1 + 1, 0, none⟩ = false := by rw [B2.frozen (by go_size)]; simp [go_sem]
    have f1 : w2.frozen? ⟨w.heap.size + 1 + 1, 1, none⟩ = false := by rw [B2.frozen (by go_size)]; simp [go_sem]
    have f2 : w2.frozen? ⟨w.heap.size + 1 + 1, 2, none⟩ = false := by rw [B2.frozen (by go_size)]; simp [go_sem]
    have B8 : Below w.heap.size w w2 := below_then (by go_grown) B2
    go_wp2
    exact bodyPost_ret (v := .tuple #[.agg #[.int .i64 0, .int .i64 0, .int .i64 0], .bool false]) (by simp [results, Tryz.results96, go_sem, *]) rfl ⟨rfl, by go_grown⟩
end Go.Proofs.YtmpjebkjopfejaaGreat
