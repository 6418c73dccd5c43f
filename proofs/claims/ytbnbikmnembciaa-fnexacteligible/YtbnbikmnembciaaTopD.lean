/- Topologies held against each other, and marked. -/
import Derived.Test.YtbnbikmnembciaaTopC
namespace Go.Proofs.Ytbnbikmnembciaa
open Go.ChangeShapes Go.WideShapes Go.ChangeAt Go.RowKit

theorem Sq.of_row {w : World} {g : Nat} {xs : List Value} (h : Row w g xs) : Sq w (some ⟨g, 0, none⟩) xs :=
  ⟨fun i u hu => ⟨⟨g, 0, none⟩, rfl, h.lt, by
    have e : (⟨g, 0, none⟩ : Addr).add i = ⟨g, i, none⟩ := by unfold Addr.add; split <;> simp_all
    rw [e]
    exact h.cell i u hu⟩⟩

set_option maxHeartbeats 1000000 in
theorem eqNode_c (m n : Nd) (w : World) :
    Calls Try.prog 69 #[m.val, n.val] w fun e w' => e = .returned (.bool (decide (m = n))) ∧ Below w.heap.size w w' := by
  obtain ⟨l, a, b, c⟩ := m
  obtain ⟨k, x, y, z⟩ := n
  show Calls Try.prog 69 #[.agg #[.int .i64 l, .int .i64 a, .int .i64 b, .int .i64 c], .agg #[.int .i64 k, .int .i64 x, .int .i64 y, .int .i64 z]] w _
  by_cases h : l = k
  · subst h
    go_enter Try.func69, Try.ntmps69
    go_wp2_with fail
    refine (eqVec_c a b c x y z _).mono ?_
    rintro e w1 ⟨rfl, hb⟩
    have HB : Hid (Below w.heap.size w w1) := below_then (by go_grown) hb
    clear hb
    cases he : (a == x && b == y && c == z)
    · have hd : Hid (decide ((⟨l, a, b, c⟩ : Nd) = ⟨l, x, y, z⟩) = false) := by
        show _ = _
        simp only [decide_eq_false_iff_not, Nd.mk.injEq, true_and]
        rintro ⟨rfl, rfl, rfl⟩
        simp at he
      go_wp2_with fail
      go_ret
      exact ⟨by rw [hd.out]; rfl, HB.out⟩
    · have hd : Hid (decide ((⟨l, a, b, c⟩ : Nd) = ⟨l, x, y, z⟩) = true) := by
        show _ = _
        simpa [and_assoc] using he
      go_wp2_with fail
      go_ret
      exact ⟨by rw [hd.out]; rfl, HB.out⟩
  · have hd : decide ((⟨l, a, b, c⟩ : Nd) = ⟨k, x, y, z⟩) = false := by simp [h]
    have hi : (l != k) = true := by simpa using h
    go_enter Try.func69, Try.ntmps69
    have Hd : Hid (decide ((⟨l, a, b, c⟩ : Nd) = ⟨k, x, y, z⟩) = false) := hd
    clear hd
    go_wp2_with fail
    go_ret
    exact ⟨by rw [Hd.out]; rfl, by go_grown⟩

theorem Sq.nodeAt {w : World} {p : Addr} {xs : List Nd} {x : Nd} {j : Nat} (h : Sq w (some p) (flat xs)) (hx : xs[j]? = some x) :
    w.cell? (p.add (j * 4)) = some (.int .i64 x.l) ∧ w.cell? ⟨(p.add (j * 4)).block, (p.add (j * 4)).off + 1, none⟩ = some (.int .i64 x.a) ∧
      w.cell? ⟨(p.add (j * 4)).block, (p.add (j * 4)).off + 2, none⟩ = some (.int .i64 x.b) ∧ w.cell? ⟨(p.add (j * 4)).block, (p.add (j * 4)).off + 3, none⟩ = some (.int .i64 x.c) := by
  obtain ⟨hj, rfl⟩ := List.getElem?_eq_some_iff.1 hx
  obtain ⟨q, hq, h0⟩ := h.node j hj
  cases hq
  exact h0

theorem held_nodes {V w' : World} {p q : Addr} {xs ys : List Nd} {x y : Nd} {j : Nat} (h : Sq V (some p) (flat xs)) (h' : Sq V (some q) (flat ys)) (hx : xs[j]? = some x) (hy : ys[j]? = some y) (hb : Below V.heap.size V w') :
    Below V.heap.size V w' ∧ (w'.cell? (p.add (j * 4)) = some (.int .i64 x.l) ∧ w'.cell? ⟨(p.add (j * 4)).block, (p.add (j * 4)).off + 1, none⟩ = some (.int .i64 x.a) ∧
      w'.cell? ⟨(p.add (j * 4)).block, (p.add (j * 4)).off + 2, none⟩ = some (.int .i64 x.b) ∧ w'.cell? ⟨(p.add (j * 4)).block, (p.add (j * 4)).off + 3, none⟩ = some (.int .i64 x.c)) ∧
     (w'.cell? (q.add (j * 4)) = some (.int .i64 y.l) ∧ w'.cell? ⟨(q.add (j * 4)).block, (q.add (j * 4)).off + 1, none⟩ = some (.int .i64 y.a) ∧
      w'.cell? ⟨(q.add (j * 4)).block, (q.add (j * 4)).off + 2, none⟩ = some (.int .i64 y.b) ∧ w'.cell? ⟨(q.add (j * 4)).block, (q.add (j * 4)).off + 3, none⟩ = some (.int .i64 y.c)) :=
  ⟨hb, (h.below hb).nodeAt hx, (h'.below hb).nodeAt hy⟩

set_option maxHeartbeats 1000000 in
theorem eqNodeS_c (a b : Option Addr) (c d : Nat) (xs ys : List Nd) (hl : xs.length ≤ 1048576) (w : World) (h : Sq w a (flat xs)) (h' : Sq w b (flat ys)) :
    Calls Try.prog 55 #[.slice a xs.length c, .slice b ys.length d] w fun e w' => e = .returned (.bool (decide (xs = ys))) ∧ Below w.heap.size w w' := by
  have H : Hid (Sq w a (flat xs)) := h
  have H' : Hid (Sq w b (flat ys)) := h'
  clear h h'
  by_cases hlen : xs.length = ys.length
  · rw [← hlen]
    have Hlen : Hid (xs.length = ys.length) := by show _ = _; exact hlen
    clear hlen
    go_enter Try.func55, Try.ntmps55
    go_wp2_with fail
    go_loopw [5] (fun i wr => ∃ j : Nat, j ≤ xs.length ∧ i = .int .i64 j ∧ (∀ k, k < j → xs[k]? = ys[k]?) ∧ Below w.heap.size w wr) (fun i _ => xs.length - (intOf i).toNat)
    case atStart => exact ⟨0, Nat.zero_le _, rfl, fun k h => by omega, Below.refl _ _⟩
    case round =>
      obtain ⟨j, hj, rfl, he, hb⟩ := hrel
      have HE : Hid (∀ k, k < j → xs[k]? = ys[k]?) := he
      have HB : Hid (Below w.heap.size w wr) := hb
      clear he hb
      by_cases hlt : j < xs.length
      · have hlt' : j < ys.length := by have := Hlen.out; omega
        have hi0 : (0 : Int) ≤ (j : Int) := by omega
        have hi1 : (j : Int) < (xs.length : Int) := by omega
        obtain ⟨p, rfl, c0, c1, c2, c3⟩ := (H.out.below HB.out).node j hlt
        obtain ⟨q, rfl, d0, d1, d2, d3⟩ := (H'.out.below HB.out).node j hlt'
        have HX : Hid (xs[j]? = some xs[j]) := List.getElem?_eq_getElem hlt
        have HY : Hid (ys[j]? = some ys[j]) := List.getElem?_eq_getElem hlt'
        generalize xs[j] = x at c0 c1 c2 c3 HX
        generalize ys[j] = y at d0 d1 d2 d3 HY
        have HSX : Hid (Sq wr (some p) (flat xs)) := H.out.below HB.out
        have HSY : Hid (Sq wr (some q) (flat ys)) := H'.out.below HB.out
        have H0 : Hid (Below wr.heap.size wr wr) := Below.refl _ _
        have HQ : Hid (∀ W, Calls Try.prog 69 #[.agg #[.int .i64 x.l, .int .i64 x.a, .int .i64 x.b, .int .i64 x.c], .agg #[.int .i64 y.l, .int .i64 y.a, .int .i64 y.b, .int .i64 y.c]] W fun e w' => e = .returned (.bool (decide (x = y))) ∧ Below W.heap.size W w') := fun W => eqNode_c x y W
        cases hd : decide (x = y)
        all_goals rw [hd] at HQ
        · go_wp2_with fail
          go_region_held3 (fun w' => Below wr.heap.size wr w' ∧ (w'.cell? (p.add (j * 4)) = some (.int .i64 x.l) ∧ w'.cell? ⟨(p.add (j * 4)).block, (p.add (j * 4)).off + 1, none⟩ = some (.int .i64 x.a) ∧ w'.cell? ⟨(p.add (j * 4)).block, (p.add (j * 4)).off + 2, none⟩ = some (.int .i64 x.b) ∧ w'.cell? ⟨(p.add (j * 4)).block, (p.add (j * 4)).off + 3, none⟩ = some (.int .i64 x.c)) ∧ (w'.cell? (q.add (j * 4)) = some (.int .i64 y.l) ∧ w'.cell? ⟨(q.add (j * 4)).block, (q.add (j * 4)).off + 1, none⟩ = some (.int .i64 y.a) ∧ w'.cell? ⟨(q.add (j * 4)).block, (q.add (j * 4)).off + 2, none⟩ = some (.int .i64 y.b) ∧ w'.cell? ⟨(q.add (j * 4)).block, (q.add (j * 4)).off + 3, none⟩ = some (.int .i64 y.c))) ((go_split_ands; refine held_nodes HSX.out HSY.out HX.out HY.out ?_; first | (exact Hid.out (by with_reducible assumption)) | (with_reducible assumption) | (exact behind (by with_reducible assumption) (by with_reducible assumption)) | (go_grown; done))) ((go_at_call 69; refine (HQ.out _).mono ?_; rintro e w1 ⟨rfl, hb1⟩))
          all_goals
            go_split_ands
            have HB1 : Hid (Below w.heap.size w w1) := below_then HB.out (show Below wr.heap.size wr w1 by with_reducible assumption)
            have HN : Hid (decide (xs = ys) = false) := by
              show _ = _
              rw [decide_eq_false_iff_not] at hd ⊢
              intro e
              have e1 := HX.out
              rw [e, HY.out] at e1
              exact hd (Option.some.inj e1).symm
            go_wp2_with fail
            go_ret
            exact ⟨by rw [HN.out]; rfl, HB1.out⟩
        · have Hd : Hid (x = y) := by show _ = _; exact of_decide_eq_true hd
          clear hd
          go_wp2_with fail
          go_region_held3 (fun w' => Below wr.heap.size wr w' ∧ (w'.cell? (p.add (j * 4)) = some (.int .i64 x.l) ∧ w'.cell? ⟨(p.add (j * 4)).block, (p.add (j * 4)).off + 1, none⟩ = some (.int .i64 x.a) ∧ w'.cell? ⟨(p.add (j * 4)).block, (p.add (j * 4)).off + 2, none⟩ = some (.int .i64 x.b) ∧ w'.cell? ⟨(p.add (j * 4)).block, (p.add (j * 4)).off + 3, none⟩ = some (.int .i64 x.c)) ∧ (w'.cell? (q.add (j * 4)) = some (.int .i64 y.l) ∧ w'.cell? ⟨(q.add (j * 4)).block, (q.add (j * 4)).off + 1, none⟩ = some (.int .i64 y.a) ∧ w'.cell? ⟨(q.add (j * 4)).block, (q.add (j * 4)).off + 2, none⟩ = some (.int .i64 y.b) ∧ w'.cell? ⟨(q.add (j * 4)).block, (q.add (j * 4)).off + 3, none⟩ = some (.int .i64 y.c))) ((go_split_ands; refine held_nodes HSX.out HSY.out HX.out HY.out ?_; first | (exact Hid.out (by with_reducible assumption)) | (with_reducible assumption) | (exact behind (by with_reducible assumption) (by with_reducible assumption)) | (go_grown; done))) ((go_at_call 69; refine (HQ.out _).mono ?_; rintro e w1 ⟨rfl, hb1⟩))
          all_goals
            go_split_ands
            have HB1 : Hid (Below w.heap.size w w1) := below_then HB.out (show Below wr.heap.size wr w1 by with_reducible assumption)
            have HE1 : Hid (∀ k, k < j + 1 → xs[k]? = ys[k]?) := fun k hk => by
              by_cases e : k = j
              · subst e
                rw [HX.out, HY.out, Hd.out]
              · exact HE.out k (by omega)
            go_wp2_with fail
            go_roundw
            case rel => exact ⟨j + 1, by omega, by go_num, HE1.out, HB1.out⟩
            case measure => simp [intOf]; omega
      · have heq : decide (xs = ys) = true := by
          simp
          apply List.ext_getElem?
          intro k
          by_cases hk : k < xs.length
          · exact HE.out k (by omega)
          · rw [List.getElem?_eq_none (by omega), List.getElem?_eq_none (by have := Hlen.out; omega)]
        go_wp2_with fail
        go_ret
        exact ⟨by rw [heq]; rfl, HB.out⟩
  · have hne : decide (xs = ys) = false := by simp; intro e; exact hlen (by rw [e])
    have hi : ((xs.length : Int) == (ys.length : Int)) = false := by simp; omega
    go_enter Try.func55, Try.ntmps55
    go_wp2_with fail
    go_ret
    exact ⟨by rw [hne]; rfl, Below.refl _ _⟩

set_option maxHeartbeats 1000000 in
theorem eqTopo_c (a b a' b' : Option Addr) (c d c' d' : Nat) (ps ps' : List Int) (ns ns' : List Nd) (hp : ps.length ≤ 1048576) (hn : ns.length ≤ 1048576) (w : World)
    (h1 : Sq w a (ints ps)) (h2 : Sq w b (flat ns)) (h3 : Sq w a' (ints ps')) (h4 : Sq w b' (flat ns')) :
    Calls Try.prog 29 #[.agg #[.slice a ps.length c, .slice b ns.length d], .agg #[.slice a' ps'.length c', .slice b' ns'.length d']] w fun e w' => e = .returned (.bool (decide (ps = ps') && decide (ns = ns'))) ∧ Below w.heap.size w w' := by
  have H1 : Hid (Sq w a (ints ps)) := h1
  have H2 : Hid (Sq w b (flat ns)) := h2
  have H3 : Hid (Sq w a' (ints ps')) := h3
  have H4 : Hid (Sq w b' (flat ns')) := h4
  clear h1 h2 h3 h4
  go_enter Try.func29, Try.ntmps29
  go_wp2_with fail
  generalize hV : (w.alloc (.cells #[.slice a ps.length c, .slice b ns.length d] 39)).alloc (.cells #[.slice a' ps'.length c', .slice b' ns'.length d'] 39) = V
  have HA : Hid (Row V w.heap.size [.slice a ps.length c, .slice b ns.length d]) := by
    subst hV
    exact (row_fresh w [.slice a ps.length c, .slice b ns.length d] 39).below (low_alloc _ _)
  have HA' : Hid (Row V (w.heap.size + 1) [.slice a' ps'.length c', .slice b' ns'.length d']) := by
    subst hV
    have h := row_fresh (w.alloc (.cells #[.slice a ps.length c, .slice b ns.length d] 39)) [.slice a' ps'.length c', .slice b' ns'.length d'] 39
    rw [show (w.alloc (.cells #[.slice a ps.length c, .slice b ns.length d] 39)).heap.size = w.heap.size + 1 by simp [go_sem]] at h
    exact h
  have HB : Hid (Below w.heap.size w V) := by subst hV; show Below _ _ _; go_grown
  clear hV
  refine (eqIntS_c a a' c c' ps ps' hp _ (H1.out.below HB.out) (H3.out.below HB.out)).mono ?_
  rintro e w1 ⟨rfl, hb⟩
  have HB1 : Hid (Below w.heap.size w w1) := below_then HB.out hb
  have a1 := (HA.out.below hb).cell 1 _ rfl
  have a2 := (HA'.out.below hb).cell 1 _ rfl
  clear hb HA HA' HB
  cases he : decide (ps = ps')
  · have He : Hid (decide (ps = ps') = false) := he
    clear he
    go_wp2_with fail
    go_ret
    exact ⟨by rw [He.out]; rfl, HB1.out⟩
  · have He : Hid (decide (ps = ps') = true) := he
    clear he
    go_wp2_with fail
    refine (eqNodeS_c b b' d d' ns ns' hn _ (H2.out.below HB1.out) (H4.out.below HB1.out)).mono ?_
    rintro e w2 ⟨rfl, hb⟩
    have HB2 : Hid (Below w.heap.size w w2) := below_then HB1.out hb
    clear hb
    cases hf : decide (ns = ns')
    · have Hf : Hid (decide (ns = ns') = false) := hf
      clear hf
      go_wp2_with fail
      go_ret
      exact ⟨by rw [He.out, Hf.out]; rfl, HB2.out⟩
    · have Hf : Hid (decide (ns = ns') = true) := hf
      clear hf
      go_wp2_with fail
      go_ret
      exact ⟨by rw [He.out, Hf.out]; rfl, HB2.out⟩
end Go.Proofs.Ytbnbikmnembciaa
