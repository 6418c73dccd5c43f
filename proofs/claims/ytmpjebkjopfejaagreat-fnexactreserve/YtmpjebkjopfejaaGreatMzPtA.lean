/- Points and profiles: the laws' own copies and looks. -/
import Derived.Test.YtmpjebkjopfejaaGreatMgRa
namespace Go.Proofs.YtmpjebkjopfejaaGreat
open Go.ChangeShapes Go.WideShapes Go.ChangeAt Go.RowKit

set_option maxHeartbeats 1000000 in
theorem toPt_c (l a b c : Int) (w : World) :
    Calls Tryz.prog 82 #[.agg #[.int .i64 l, .int .i64 a, .int .i64 b, .int .i64 c]] w fun e w' => e = .returned (.agg #[.int .i64 l, .int .i64 a, .int .i64 b, .int .i64 c]) ∧ Below w.heap.size w w' := by
  go_enter Tryz.func82, Tryz.ntmps82
  go_wp2_with fail
  generalize hV : (((w.alloc (.cells #[.int .i64 l, .int .i64 a, .int .i64 b, .int .i64 c] 119)).alloc (.cells #[.int .i64 0, .int .i64 0, .int .i64 0, .int .i64 0] 109)).alloc (.cells #[.int .i64 l, .int .i64 0, .int .i64 0, .int .i64 0] 109)) = V
  have HR : Hid (Row V (w.heap.size + 1) [.int .i64 0, .int .i64 0, .int .i64 0, .int .i64 0]) := by
    subst hV
    have h := row_fresh (w.alloc (.cells #[.int .i64 l, .int .i64 a, .int .i64 b, .int .i64 c] 119)) [.int .i64 0, .int .i64 0, .int .i64 0, .int .i64 0] 109
    rw [show (w.alloc (.cells #[.int .i64 l, .int .i64 a, .int .i64 b, .int .i64 c] 119)).heap.size = w.heap.size + 1 by simp [go_sem]] at h
    exact h.below (low_alloc _ _)
  have HO : Hid (Row V (w.heap.size + 1 + 1) [.int .i64 l, .int .i64 0, .int .i64 0, .int .i64 0]) := by
    subst hV
    have h := row_fresh ((w.alloc (.cells #[.int .i64 l, .int .i64 a, .int .i64 b, .int .i64 c] 119)).alloc (.cells #[.int .i64 0, .int .i64 0, .int .i64 0, .int .i64 0] 109)) [.int .i64 l, .int .i64 0, .int .i64 0, .int .i64 0] 109
    rw [show ((w.alloc (.cells #[.int .i64 l, .int .i64 a, .int .i64 b, .int .i64 c] 119)).alloc (.cells #[.int .i64 0, .int .i64 0, .int .i64 0, .int .i64 0] 109)).heap.size = w.heap.size + 1 + 1 by simp [go_sem]] at h
    exact h
  have HB : Hid (Below w.heap.size w V) := by subst hV; show Below _ _ _; go_grown
  clear hV
  refine (toVec_c a b c _).mono ?_
  rintro e w1 ⟨rfl, hb⟩
  have HR1 : Hid (Row w1 (w.heap.size + 1) [.int .i64 0, .int .i64 0, .int .i64 0, .int .i64 0]) := HR.out.below hb
  have HO1 : Hid (Row w1 (w.heap.size + 1 + 1) [.int .i64 l, .int .i64 0, .int .i64 0, .int .i64 0]) := HO.out.below hb
  have B8 : Below w.heap.size w w1 := below_then HB.out hb
  clear hb HR HO HB
  have r0 := HR1.out.cell 0 _ rfl
  have o0 := HO1.out.cell 0 _ rfl
  have fr0 := HR1.out.free 0
  have fo0 := HO1.out.free 0
  have r1 := HR1.out.cell 1 _ rfl
  have o1 := HO1.out.cell 1 _ rfl
  have fr1 := HR1.out.free 1
  have fo1 := HO1.out.free 1
  have r2 := HR1.out.cell 2 _ rfl
  have o2 := HO1.out.cell 2 _ rfl
  have fr2 := HR1.out.free 2
  have fo2 := HO1.out.free 2
  have r3 := HR1.out.cell 3 _ rfl
  have o3 := HO1.out.cell 3 _ rfl
  have fr3 := HR1.out.free 3
  have fo3 := HO1.out.free 3
  go_wp2_with fail
  exact bodyPost_ret (v := .agg #[.int .i64 l, .int .i64 a, .int .i64 b, .int .i64 c]) (by simp [results, Tryz.results82, go_sem, *]) rfl ⟨rfl, by go_grown⟩

theorem infoPt : (Tryz.prog.info? 109).map (fun i => (i.zero, i.size, i.bytes)) = some (some (.agg #[.int .i64 0, .int .i64 0, .int .i64 0, .int .i64 0]), 4, 32) := by kernel_rfl

/-- 'make([]impl.Pt, n)'. -/
theorem make_pts (n : Nat) (hn : n ≤ 1048576) : ∃ Z : List Value, Z.length = 4 * n ∧ ∀ w : World, (Instr.makeSlice 42 (.int .i64 (n : Int)) (.int .i64 (n : Int))).run Tryz.prog w = .ok (.slice (some ⟨w.heap.size, 0, none⟩) n n) (w.alloc (.cells Z.toArray 109)) := by
  obtain ⟨i0, hi, hz0, hz1, hz2⟩ := info_parts infoPt
  refine ⟨(madeCells (Value.agg #[.int .i64 0, .int .i64 0, .int .i64 0, .int .i64 0]).cells (n * i0.size)).toList, ?_, fun w => ?_⟩
  · rw [hz1]
    simp [madeCells, Value.cells]
    omega
  · have h := run_make (P := Tryz.prog) (w := w) 42 109 i0 (.agg #[.int .i64 0, .int .i64 0, .int .i64 0, .int .i64 0]) Tryz.underlying42 hi hz0 .i64 .i64 (n : Int) (n : Int) (by omega) (Int.le_refl _) (by rw [hz2]; omega) (by omega)
    simpa using h

set_option maxHeartbeats 1000000 in
theorem toPtS_c (a : Option Addr) (cap : Nat) (xs : List Nd) (hl : xs.length ≤ 1048576) (w : World) (h : Sq w a (flat xs)) :
    Calls Tryz.prog 58 #[.slice a xs.length cap] w fun e w' =>
      ∃ g, e = .returned (.slice (some ⟨g, 0, none⟩) xs.length xs.length) ∧ w.heap.size ≤ g ∧ Row w' g (flat xs) ∧ Below w.heap.size w w' := by
  have H : Hid (Sq w a (flat xs)) := h
  clear h
  obtain ⟨Z, hZ, hmk⟩ := make_pts xs.length hl
  go_enter Tryz.func58, Tryz.ntmps58
  go_wp2_with fail
  go_loopw [4] (fun i wr => ∃ (j : Nat) (ys : List Value), j ≤ xs.length ∧ i = .int .i64 j ∧ PartN ys xs j ∧ Row wr w.heap.size ys ∧ Below w.heap.size w wr) (fun i _ => xs.length - (intOf i).toNat)
  case atStart => exact ⟨0, Z, Nat.zero_le _, rfl, ⟨hZ, fun i _ k _ h => by omega⟩, row_fresh w Z 109, by go_grown⟩
  case round =>
    obtain ⟨j, ys, hj, rfl, hp, hr, hb⟩ := hrel
    have HP : Hid (PartN ys xs j) := hp
    have HR : Hid (Row wr w.heap.size ys) := hr
    have HB : Hid (Below w.heap.size w wr) := hb
    clear hp hr hb hmk hZ
    by_cases hlt : j < xs.length
    · have hi0 : (0 : Int) ≤ (j : Int) := by omega
      have hi1 : (j : Int) < (xs.length : Int) := by omega
      obtain ⟨p, rfl, c0, c1, c2, c3⟩ := (H.out.below HB.out).node j hlt
      go_wp2_with fail
      refine (toPt_c _ _ _ _ _).mono ?_
      rintro e w1 ⟨rfl, hb1⟩
      have HB1 : Hid (Below w.heap.size w w1) := below_then HB.out hb1
      have HR1 : Hid (Row w1 w.heap.size ys) := HR.out.below hb1
      have hy : j * 4 + 3 < ys.length := by rw [HP.out.1]; omega
      have HS := HR1.out.put j xs[j] hy
      have d0 := HR1.out.cell (j * 4) _ (List.getElem?_eq_getElem (by omega))
      have d1 := HR1.out.cell (j * 4 + 1) _ (List.getElem?_eq_getElem (by omega))
      have d2 := HR1.out.cell (j * 4 + 2) _ (List.getElem?_eq_getElem (by omega))
      have d3 := HR1.out.cell (j * 4 + 3) _ (List.getElem?_eq_getElem (by omega))
      have f0 := HR1.out.free (j * 4)
      have f1 := HR1.out.free (j * 4 + 1)
      have f2 := HR1.out.free (j * 4 + 2)
      have f3 := HR1.out.free (j * 4 + 3)
      clear hb1 c0 c1 c2 c3
      have HT : Hid (Row _ _ _) := HS
      clear HS
      go_wp2_with fail
      exact ⟨⟨j + 1, put4 ys j xs[j], by omega, by go_num, HP.out.set hlt, HT.out, (((HB1.out.setCell (Nat.le_refl _) _).setCell (Nat.le_refl _) _).setCell (Nat.le_refl _) _).setCell (Nat.le_refl _) _⟩, by simp [intOf]; omega⟩
    · have HE : Hid (ys = flat xs) := HP.out.all (by omega)
      go_wp2_with fail
      go_ret
      exact ⟨_, rfl, Nat.le_refl _, by rw [← HE.out]; exact HR.out, HB.out⟩

theorem szPtS_c (a : Option Addr) (n cap : Nat) (hn : n ≤ maxLen) (left : Int) (h0 : 0 ≤ left) (h1 : left ≤ 1048576) (w : World) :
    Calls Tryz.prog 49 #[.slice a n cap, .int .i64 left] w fun e w' => e = .returned (.int .i64 (if left - n < 0 then -1 else left - n)) ∧ w' = w := by
  unfold maxLen at hn
  by_cases h : left - n < 0
  · go_enter Tryz.func49, Tryz.ntmps49
    go_wp2_with fail
    go_ret
    exact ⟨rfl, rfl⟩
  · go_enter Tryz.func49, Tryz.ntmps49
    go_wp2_with fail
    go_ret
    exact ⟨rfl, rfl⟩

set_option maxHeartbeats 1000000 in
theorem eqPt_c (m n : Nd) (w : World) :
    Calls Tryz.prog 99 #[m.val, n.val] w fun e w' => e = .returned (.bool (decide (m = n))) ∧ Below w.heap.size w w' := by
  obtain ⟨l, a, b, c⟩ := m
  obtain ⟨k, x, y, z⟩ := n
  show Calls Tryz.prog 99 #[.agg #[.int .i64 l, .int .i64 a, .int .i64 b, .int .i64 c], .agg #[.int .i64 k, .int .i64 x, .int .i64 y, .int .i64 z]] w _
  by_cases h : l = k
  · subst h
    go_enter Tryz.func99, Tryz.ntmps99
    go_wp2_with fail
    refine (eqVec_c a b c x y z _).mono ?_
    rintro e w1 ⟨rfl, hb⟩
    have HB : Hid (Below w.heap.size w w1) := below_then (by go_grown) hb
    clear hb
    cases he : (a == x && b == y && c == z)
    · have hd : Hid (decide ((⟨l, a, b, c⟩ : Nd) = ⟨l, x, y, z⟩) = false) := by
        show _ = _
        simp only [decide_eq_false_iff_not, Nd.mk.injEq, true_and]
        rintro ⟨rfl, rfl, rfl⟩
        simp at he
      go_wp2_with fail
      go_ret
      exact ⟨by rw [hd.out]; rfl, HB.out⟩
    · have hd : Hid (decide ((⟨l, a, b, c⟩ : Nd) = ⟨l, x, y, z⟩) = true) := by
        show _ = _
        simpa [and_assoc] using he
      go_wp2_with fail
      go_ret
      exact ⟨by rw [hd.out]; rfl, HB.out⟩
  · have hd : decide ((⟨l, a, b, c⟩ : Nd) = ⟨k, x, y, z⟩) = false := by simp [h]
    have hi : (l != k) = true := by simpa using h
    go_enter Tryz.func99, Tryz.ntmps99
    have Hd : Hid (decide ((⟨l, a, b, c⟩ : Nd) = ⟨k, x, y, z⟩) = false) := hd
    clear hd
    go_wp2_with fail
    go_ret
    exact ⟨by rw [Hd.out]; rfl, by go_grown⟩

set_option maxHeartbeats 1000000 in
theorem eqPtS_c (a b : Option Addr) (c d : Nat) (xs ys : List Nd) (hl : xs.length ≤ 1048576) (w : World) (h : Sq w a (flat xs)) (h' : Sq w b (flat ys)) :
    Calls Tryz.prog 66 #[.slice a xs.length c, .slice b ys.length d] w fun e w' => e = .returned (.bool (decide (xs = ys))) ∧ Below w.heap.size w w' := by
  have H : Hid (Sq w a (flat xs)) := h
  have H' : Hid (Sq w b (flat ys)) := h'
  clear h h'
  by_cases hlen : xs.length = ys.length
  · rw [← hlen]
    have Hlen : Hid (xs.length = ys.length) := by show _ = _; exact hlen
    clear hlen
    go_enter Tryz.func66, Tryz.ntmps66
    go_wp2_with fail
    go_loopw [5] (fun i wr => ∃ j : Nat, j ≤ xs.length ∧ i = .int .i64 j ∧ (∀ k, k < j → xs[k]? = ys[k]?) ∧ Below w.heap.size w wr) (fun i _ => xs.length - (intOf i).toNat)
    case atStart => exact ⟨0, Nat.zero_le _, rfl, fun k h => by omega, Below.refl _ _⟩
    case round =>
      obtain ⟨j, hj, rfl, he, hb⟩ := hrel
      have HE : Hid (∀ k, k < j → xs[k]? = ys[k]?) := he
      have HB : Hid (Below w.heap.size w wr) := hb
      clear he hb
      by_cases hlt : j < xs.length
      · have hlt' : j < ys.length := by have := Hlen.out; omega
        have hi0 : (0 : Int) ≤ (j : Int) := by omega
        have hi1 : (j : Int) < (xs.length : Int) := by omega
        obtain ⟨p, rfl, c0, c1, c2, c3⟩ := (H.out.below HB.out).node j hlt
        obtain ⟨q, rfl, d0, d1, d2, d3⟩ := (H'.out.below HB.out).node j hlt'
        have HX : Hid (xs[j]? = some xs[j]) := List.getElem?_eq_getElem hlt
        have HY : Hid (ys[j]? = some ys[j]) := List.getElem?_eq_getElem hlt'
        generalize xs[j] = x at c0 c1 c2 c3 HX
        generalize ys[j] = y at d0 d1 d2 d3 HY
        have HSX : Hid (Sq wr (some p) (flat xs)) := H.out.below HB.out
        have HSY : Hid (Sq wr (some q) (flat ys)) := H'.out.below HB.out
        have H0 : Hid (Below wr.heap.size wr wr) := Below.refl _ _
        have HQ : Hid (∀ W, Calls Tryz.prog 99 #[.agg #[.int .i64 x.l, .int .i64 x.a, .int .i64 x.b, .int .i64 x.c], .agg #[.int .i64 y.l, .int .i64 y.a, .int .i64 y.b, .int .i64 y.c]] W fun e w' => e = .returned (.bool (decide (x = y))) ∧ Below W.heap.size W w') := fun W => eqPt_c x y W
        cases hd : decide (x = y)
        all_goals rw [hd] at HQ
        · go_wp2_with fail
          go_region_held3 (fun w' => Below wr.heap.size wr w' ∧ (w'.cell? (p.add (j * 4)) = some (.int .i64 x.l) ∧ w'.cell? ⟨(p.add (j * 4)).block, (p.add (j * 4)).off + 1, none⟩ = some (.int .i64 x.a) ∧ w'.cell? ⟨(p.add (j * 4)).block, (p.add (j * 4)).off + 2, none⟩ = some (.int .i64 x.b) ∧ w'.cell? ⟨(p.add (j * 4)).block, (p.add (j * 4)).off + 3, none⟩ = some (.int .i64 x.c)) ∧ (w'.cell? (q.add (j * 4)) = some (.int .i64 y.l) ∧ w'.cell? ⟨(q.add (j * 4)).block, (q.add (j * 4)).off + 1, none⟩ = some (.int .i64 y.a) ∧ w'.cell? ⟨(q.add (j * 4)).block, (q.add (j * 4)).off + 2, none⟩ = some (.int .i64 y.b) ∧ w'.cell? ⟨(q.add (j * 4)).block, (q.add (j * 4)).off + 3, none⟩ = some (.int .i64 y.c))) ((go_split_ands; refine held_nodes HSX.out HSY.out HX.out HY.out ?_; first | (exact Hid.out (by with_reducible assumption)) | (with_reducible assumption) | (exact behind (by with_reducible assumption) (by with_reducible assumption)) | (go_grown; done))) ((go_at_call 99; refine (HQ.out _).mono ?_; rintro e w1 ⟨rfl, hb1⟩))
          all_goals
            go_split_ands
            have HB1 : Hid (Below w.heap.size w w1) := below_then HB.out (show Below wr.heap.size wr w1 by with_reducible assumption)
            have HN : Hid (decide (xs = ys) = false) := by
              show _ = _
              rw [decide_eq_false_iff_not] at hd ⊢
              intro e
              have e1 := HX.out
              rw [e, HY.out] at e1
              exact hd (Option.some.inj e1).symm
            go_wp2_with fail
            go_ret
            exact ⟨by rw [HN.out]; rfl, HB1.out⟩
        · have Hd : Hid (x = y) := by show _ = _; exact of_decide_eq_true hd
          clear hd
          go_wp2_with fail
          go_region_held3 (fun w' => Below wr.heap.size wr w' ∧ (w'.cell? (p.add (j * 4)) = some (.int .i64 x.l) ∧ w'.cell? ⟨(p.add (j * 4)).block, (p.add (j * 4)).off + 1, none⟩ = some (.int .i64 x.a) ∧ w'.cell? ⟨(p.add (j * 4)).block, (p.add (j * 4)).off + 2, none⟩ = some (.int .i64 x.b) ∧ w'.cell? ⟨(p.add (j * 4)).block, (p.add (j * 4)).off + 3, none⟩ = some (.int .i64 x.c)) ∧ (w'.cell? (q.add (j * 4)) = some (.int .i64 y.l) ∧ w'.cell? ⟨(q.add (j * 4)).block, (q.add (j * 4)).off + 1, none⟩ = some (.int .i64 y.a) ∧ w'.cell? ⟨(q.add (j * 4)).block, (q.add (j * 4)).off + 2, none⟩ = some (.int .i64 y.b) ∧ w'.cell? ⟨(q.add (j * 4)).block, (q.add (j * 4)).off + 3, none⟩ = some (.int .i64 y.c))) ((go_split_ands; refine held_nodes HSX.out HSY.out HX.out HY.out ?_; first | (exact Hid.out (by with_reducible assumption)) | (with_reducible assumption) | (exact behind (by with_reducible assumption) (by with_reducible assumption)) | (go_grown; done))) ((go_at_call 99; refine (HQ.out _).mono ?_; rintro e w1 ⟨rfl, hb1⟩))
          all_goals
            go_split_ands
            have HB1 : Hid (Below w.heap.size w w1) := below_then HB.out (show Below wr.heap.size wr w1 by with_reducible assumption)
            have HE1 : Hid (∀ k, k < j + 1 → xs[k]? = ys[k]?) := fun k hk => by
              by_cases e : k = j
              · subst e
                rw [HX.out, HY.out, Hd.out]
              · exact HE.out k (by omega)
            go_wp2_with fail
            go_roundw
            case rel => exact ⟨j + 1, by omega, by go_num, HE1.out, HB1.out⟩
            case measure => simp [intOf]; omega
      · have heq : decide (xs = ys) = true := by
          simp
          apply List.ext_getElem?
          intro k
          by_cases hk : k < xs.length
          · exact HE.out k (by omega)
          · rw [List.getElem?_eq_none (by omega), List.getElem?_eq_none (by have := Hlen.out; omega)]
        go_wp2_with fail
        go_ret
        exact ⟨by rw [heq]; rfl, HB.out⟩
  · have hne : decide (xs = ys) = false := by simp; intro e; exact hlen (by rw [e])
    have hi : ((xs.length : Int) == (ys.length : Int)) = false := by simp; omega
    go_enter Tryz.func66, Tryz.ntmps66
    go_wp2_with fail
    go_ret
    exact ⟨by rw [hne]; rfl, Below.refl _ _⟩

/-- What is left of the measure behind a profile; -1 where it is too great. -/
def szP (n : Nat) (left : Int) : Int := if left - n < 0 then -1 else left - n
theorem szp_yes {n : Nat} {left : Int} (h1 : left ≤ 1048576) (h : ¬ szP n left < 0) : n ≤ 1048576 ∧ 0 ≤ szP n left ∧ szP n left ≤ 1048576 := by
  unfold szP at *
  split at h
  · omega
  · rw [if_neg (by omega)]; omega

theorem szProf_c (a : Option Addr) (n c : Nat) (hn : n ≤ maxLen) (left : Int) (h0 : 0 ≤ left) (h1 : left ≤ 1048576) (w : World) :
    Calls Tryz.prog 21 #[.agg #[.slice a n c], .int .i64 left] w fun e w' => e = .returned (.int .i64 (szP n left)) ∧ Below w.heap.size w w' := by
  have Hn : Hid (n ≤ maxLen) := hn
  clear hn
  go_enter Tryz.func21, Tryz.ntmps21
  go_wp2_with fail
  refine (szPtS_c a n c Hn.out left h0 h1 _).mono ?_
  rintro e w1 ⟨rfl, rfl⟩
  by_cases h2 : left - n < 0
  · have H2 : Hid (left - n < 0) := h2
    rw [if_pos h2]
    go_wp2_with fail
    go_ret
    exact ⟨by rw [szP, if_pos H2.out]; rfl, by go_grown⟩
  · have H2 : Hid (¬ left - n < 0) := h2
    rw [if_neg h2]
    go_wp2_with fail
    go_ret
    exact ⟨by rw [szP, if_neg (by have := H2.out; omega)]; rfl, by go_grown⟩

set_option maxHeartbeats 1000000 in
theorem toProf_c (b : Option Addr) (d : Nat) (ns : List Nd) (hn : ns.length ≤ 1048576) (w : World) (h' : Sq w b (flat ns)) :
    Calls Tryz.prog 29 #[.agg #[.slice b ns.length d]] w fun e w' =>
      ∃ h, e = .returned (.agg #[.slice (some ⟨h, 0, none⟩) ns.length ns.length]) ∧ w.heap.size ≤ h ∧ Row w' h (flat ns) ∧ Below w.heap.size w w' := by
  have H' : Hid (Sq w b (flat ns)) := h'
  clear h'
  go_enter Tryz.func29, Tryz.ntmps29
  go_wp2_with fail
  generalize hV : (((w.alloc (.cells #[.slice b ns.length d] 30)).alloc (.cells #[.slice none 0 0] 44)).alloc (.cells #[.slice none 0 0] 44)) = V
  have HR : Hid (Row V (w.heap.size + 1) [.slice none 0 0]) := by
    subst hV
    have h := row_fresh (w.alloc (.cells #[.slice b ns.length d] 30)) [.slice none 0 0] 44
    rw [show (w.alloc (.cells #[.slice b ns.length d] 30)).heap.size = w.heap.size + 1 by simp [go_sem]] at h
    exact h.below (low_alloc _ _)
  have HO : Hid (Row V (w.heap.size + 1 + 1) [.slice none 0 0]) := by
    subst hV
    have h := row_fresh ((w.alloc (.cells #[.slice b ns.length d] 30)).alloc (.cells #[.slice none 0 0] 44)) [.slice none 0 0] 44
    rw [show ((w.alloc (.cells #[.slice b ns.length d] 30)).alloc (.cells #[.slice none 0 0] 44)).heap.size = w.heap.size + 1 + 1 by simp [go_sem]] at h
    exact h
  have HB : Hid (Below w.heap.size w V) := by subst hV; show Below _ _ _; go_grown
  clear hV
  refine (toPtS_c b d ns hn _ (H'.out.below HB.out)).mono ?_
  rintro e w3 ⟨h, rfl, hh, hr, hb⟩
  have hgh : w.heap.size + 1 + 1 < h := by have := HO.out.lt; omega
  have HN3 : Hid (Row w3 h (flat ns)) := hr
  have HR3 : Hid (Row w3 (w.heap.size + 1) [.slice none 0 0]) := HR.out.below hb
  have HO3 : Hid (Row w3 (w.heap.size + 1 + 1) [.slice none 0 0]) := HO.out.below hb
  have HB3 : Hid (Below w.heap.size w w3) := below_then HB.out hb
  clear hb hr HR HO HB
  have o0 := HO3.out.cell 0 _ rfl
  have fo0 := HO3.out.free 0
  have r0 := HR3.out.cell 0 _ rfl
  have fr0 := HR3.out.free 0
  have n1 : w.heap.size + 1 ≠ w.heap.size + 1 + 1 := by omega
  have n2 : w.heap.size + 1 + 1 ≠ w.heap.size + 1 := by omega
  go_wp2_with fail
  have N := (HN3.out.apart (w.heap.size + 1 + 1) 0 (.slice (some ⟨h, 0, none⟩) ns.length ns.length) (by omega)).apart (w.heap.size + 1) 0 (.slice (some ⟨h, 0, none⟩) ns.length ns.length) (by omega)
  have B8 := HB3.out
  exact bodyPost_ret (v := .agg #[.slice (some ⟨h, 0, none⟩) ns.length ns.length]) (by simp [results, Tryz.results29, go_sem, *]) rfl ⟨h, rfl, by omega, N, by go_grown⟩

set_option maxHeartbeats 1000000 in
theorem eqProf_c (b b' : Option Addr) (d d' : Nat) (ns ns' : List Nd) (hn : ns.length ≤ 1048576) (w : World) (h2 : Sq w b (flat ns)) (h4 : Sq w b' (flat ns')) :
    Calls Tryz.prog 36 #[.agg #[.slice b ns.length d], .agg #[.slice b' ns'.length d']] w fun e w' => e = .returned (.bool (decide (ns = ns'))) ∧ Below w.heap.size w w' := by
  have H2 : Hid (Sq w b (flat ns)) := h2
  have H4 : Hid (Sq w b' (flat ns')) := h4
  clear h2 h4
  go_enter Tryz.func36, Tryz.ntmps36
  go_wp2_with fail
  generalize hV : (w.alloc (.cells #[.slice b ns.length d] 44)).alloc (.cells #[.slice b' ns'.length d'] 44) = V
  have HB : Hid (Below w.heap.size w V) := by subst hV; show Below _ _ _; go_grown
  clear hV
  refine (eqPtS_c b b' d d' ns ns' hn _ (H2.out.below HB.out) (H4.out.below HB.out)).mono ?_
  rintro e w2 ⟨rfl, hb⟩
  have HB2 : Hid (Below w.heap.size w w2) := below_then HB.out hb
  clear hb
  cases hf : decide (ns = ns')
  · have Hf : Hid (decide (ns = ns') = false) := hf
    clear hf
    go_wp2_with fail
    go_ret
    exact ⟨by rw [Hf.out]; rfl, HB2.out⟩
  · have Hf : Hid (decide (ns = ns') = true) := hf
    clear hf
    go_wp2_with fail
    go_ret
    exact ⟨by rw [Hf.out]; rfl, HB2.out⟩

set_option maxHeartbeats 1000000 in
theorem markPtS_c (g cap n k0 : Nat) (xs : List Value) (hx : xs.length = 4 * n) (hl : n ≤ 1048576) (hk : k0 ≤ 4294967296) (w : World) (h : Row w g xs) :
    Calls Tryz.prog 68 #[.slice (some ⟨g, 0, none⟩) n cap, .int .i64 (k0 : Int)] w fun e w' => e = .returned (.int .i64 ((k0 + 4 * n : Nat) : Int)) ∧ w.grownBy w' (some g) ∧ Row w' g (upFrom k0 (4 * n)) := by
  have H : Hid (Row w g xs) := h
  clear h
  go_enter Tryz.func68, Tryz.ntmps68
  go_wp2_with fail
  go_loopw [1, 5] (fun k i wr => ∃ (j : Nat) (ys : List Value), j ≤ n ∧ i = .int .i64 j ∧ k = .int .i64 ((k0 + 4 * j : Nat) : Int) ∧ Marked ys k0 (4 * n) (4 * j) ∧ w.grownBy wr (some g) ∧ Row wr g ys) (fun _ i _ => n - (intOf i).toNat)
  case atStart => exact ⟨0, xs, Nat.zero_le _, rfl, rfl, ⟨hx, fun i _ h => by omega⟩, ⟨rfl, rfl, rfl, Nat.le_refl _, fun _ _ _ => rfl⟩, H.out⟩
  case round =>
    obtain ⟨j, ys, hj, rfl, rfl, hm, hg, hr⟩ := hrel
    have HG : Hid (w.grownBy wr (some g)) := hg
    have HR : Hid (Row wr g ys) := hr
    have HM : Hid (Marked ys k0 (4 * n) (4 * j)) := hm
    have hy : ys.length = 4 * n := hm.1
    clear hg hr hm
    by_cases hlt : j < n
    · have hi1 : (j : Int) < (n : Int) := by omega
      have hi0 : (0 : Int) ≤ (j : Int) := by omega
      have d0 := HR.out.cell (j * 4) _ (List.getElem?_eq_getElem (by omega))
      have d1 := HR.out.cell (j * 4 + 1) _ (List.getElem?_eq_getElem (by omega))
      have d2 := HR.out.cell (j * 4 + 2) _ (List.getElem?_eq_getElem (by omega))
      have d3 := HR.out.cell (j * 4 + 3) _ (List.getElem?_eq_getElem (by omega))
      have f0 := HR.out.free (j * 4)
      have f1 := HR.out.free (j * 4 + 1)
      have f2 := HR.out.free (j * 4 + 2)
      have f3 := HR.out.free (j * 4 + 3)
      generalize ys[j * 4] = y0 at d0
      generalize ys[j * 4 + 1] = y1 at d1
      generalize ys[j * 4 + 2] = y2 at d2
      generalize ys[j * 4 + 3] = y3 at d3
      have HM4 := (((HM.out.set (by omega)).set (by omega)).set (by omega)).set (by omega)
      have HN4 : Hid (Marked ((((ys.set (j * 4) (.int .i64 ((k0 : Int) + 4 * (j : Int)))).set (j * 4 + 1) (.int .i64 ((k0 : Int) + 4 * (j : Int) + 1))).set (j * 4 + 1 + 1) (.int .i64 ((k0 : Int) + 4 * (j : Int) + 1 + 1))).set (j * 4 + 1 + 2) (.int .i64 ((k0 : Int) + 4 * (j : Int) + 1 + 1 + 1))) k0 (4 * n) (4 * (j + 1))) := by
        show Marked _ _ _ _
        have e0 : 4 * j = j * 4 := by omega
        have e1 : ((k0 + 4 * j : Nat) : Int) = (k0 : Int) + 4 * (j : Int) := by omega
        have e2 : ((k0 + (4 * j + 1) : Nat) : Int) = (k0 : Int) + 4 * (j : Int) + 1 := by omega
        have e3 : ((k0 + (4 * j + 1 + 1) : Nat) : Int) = (k0 : Int) + 4 * (j : Int) + 1 + 1 := by omega
        have e4 : ((k0 + (4 * j + 1 + 1 + 1) : Nat) : Int) = (k0 : Int) + 4 * (j : Int) + 1 + 1 + 1 := by omega
        have e5 : 4 * (j + 1) = j * 4 + 1 + 1 + 1 + 1 := by omega
        rw [e1, e2, e3, e4, e0] at HM4
        rw [e5]
        exact HM4
      clear HM4
      go_wp2_with fail
      refine ⟨⟨j + 1, _, by omega, by go_num, ?_, HN4.out, Lib.grownBy_setB (Lib.grownBy_setB (Lib.grownBy_setB (Lib.grownBy_setB HG.out _ _) _ _) _ _) _ _, (((HR.out.set _ ?_ _).set _ ?_ _).set _ ?_ _).set _ ?_ _⟩, by simp [intOf]; omega⟩
      · rw [show ((k0 : Int) + 4 * (j : Int) + 1 + 1 + 1 + 1) = ((k0 + 4 * (j + 1) : Nat) : Int) by omega]
      · omega
      · simp; omega
      · simp; omega
      · simp; omega
    · obtain rfl : j = n := by omega
      have HE : Hid (ys = upFrom k0 (4 * j)) := HM.out.all (Nat.le_refl _)
      go_wp2_with fail
      go_ret
      exact ⟨rfl, HG.out, by rw [← HE.out]; exact HR.out⟩

set_option maxHeartbeats 1000000 in
theorem heldPtS_c (g cap k0 n : Nat) (hl : n ≤ 1048576) (hk : k0 ≤ 4294967296) (w : World) (h : Row w g (upFrom k0 (4 * n))) :
    Calls Tryz.prog 71 #[.slice (some ⟨g, 0, none⟩) n cap, .int .i64 (k0 : Int)] w fun e w' => e = .returned (.int .i64 ((k0 + 4 * n : Nat) : Int)) ∧ Below w.heap.size w w' := by
  have H : Hid (Row w g (upFrom k0 (4 * n))) := h
  clear h
  go_enter Tryz.func71, Tryz.ntmps71
  go_wp2_with fail
  go_loopw [1, 5] (fun k i wr => ∃ j : Nat, j ≤ n ∧ i = .int .i64 j ∧ k = .int .i64 ((k0 + 4 * j : Nat) : Int) ∧ Below w.heap.size w wr) (fun _ i _ => n - (intOf i).toNat)
  case atStart => exact ⟨0, Nat.zero_le _, rfl, rfl, Below.refl _ _⟩
  case round =>
    obtain ⟨j, hj, rfl, rfl, hb⟩ := hrel
    have HB : Hid (Below w.heap.size w wr) := hb
    have HR : Hid (Row wr g (upFrom k0 (4 * n))) := H.out.below hb
    clear hb
    by_cases hlt : j < n
    · have hi1 : (j : Int) < (n : Int) := by omega
      have hi0 : (0 : Int) ≤ (j : Int) := by omega
      have d0 := HR.out.cell (j * 4) _ (upFrom_get k0 (4 * n) (j * 4) (by omega))
      have d1 := HR.out.cell (j * 4 + 1) _ (upFrom_get k0 (4 * n) (j * 4 + 1) (by omega))
      have d2 := HR.out.cell (j * 4 + 2) _ (upFrom_get k0 (4 * n) (j * 4 + 2) (by omega))
      have d3 := HR.out.cell (j * 4 + 3) _ (upFrom_get k0 (4 * n) (j * 4 + 3) (by omega))
      rw [show ((k0 + j * 4 : Nat) : Int) = (k0 : Int) + 4 * (j : Int) by omega] at d0
      rw [show ((k0 + (j * 4 + 1) : Nat) : Int) = (k0 : Int) + 4 * (j : Int) + 1 by omega] at d1
      rw [show ((k0 + (j * 4 + 2) : Nat) : Int) = (k0 : Int) + 4 * (j : Int) + 1 + 1 by omega] at d2
      rw [show ((k0 + (j * 4 + 3) : Nat) : Int) = (k0 : Int) + 4 * (j : Int) + 1 + 1 + 1 by omega] at d3
      rw [show ((k0 + 4 * j : Nat) : Int) = (k0 : Int) + 4 * (j : Int) by omega]
      go_wp2_with fail
      refine ⟨⟨j + 1, by omega, by go_num, ?_, HB.out⟩, by simp [intOf]; omega⟩
      rw [show ((k0 : Int) + 4 * (j : Int) + 1 + 1 + 1 + 1) = ((k0 + 4 * (j + 1) : Nat) : Int) by omega]
    · obtain rfl : j = n := by omega
      go_wp2_with fail
      go_ret
      exact ⟨rfl, HB.out⟩
end Go.Proofs.YtmpjebkjopfejaaGreat
