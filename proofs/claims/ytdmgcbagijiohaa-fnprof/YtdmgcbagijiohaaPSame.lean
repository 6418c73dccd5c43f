/- Two profiles held against each other: the specification and the program. -/
import Derived.Test.YtdmgcbagijiohaaPrfB
namespace Go.Proofs.Ytdmgcbagijiohaa
open Go.ChangeShapes Go.WideShapes Go.ChangeAt Go.RowKit

set_option maxRecDepth 100000 in
/-- Two points, held against each other. -/
theorem eq_pt (m n : Nd) (w : World) : (Op.equalIn 10000 80 (.agg #[.int .i64 m.l, .int .i64 m.a, .int .i64 m.b, .int .i64 m.c]) (.agg #[.int .i64 n.l, .int .i64 n.a, .int .i64 n.b, .int .i64 n.c])).run Try.prog w = .ok (decide (m = n)) w := by
  obtain ⟨l, a, b, c⟩ := m
  obtain ⟨k, x, y, z⟩ := n
  rw [run_equalIn_struct w 9999 80 _ _ (by rfl) (by kernel_rfl)]
  have hv : ∀ W : World, (Op.equalIn 9999 27 (.agg #[.int .i64 a, .int .i64 b, .int .i64 c]) (.agg #[.int .i64 x, .int .i64 y, .int .i64 z])).run Try.prog W = .ok (a == x && (b == y && c == z)) W := fun W => by
    rw [run_equalIn_struct W 9998 27 _ _ (by rfl) (by kernel_rfl)]
    cases h1 : a == x <;> cases h2 : b == y <;> cases h3 : c == z <;> simp_all [go_sem]
  have he : decide ((⟨l, a, b, c⟩ : Nd) = ⟨k, x, y, z⟩) = (l == k && (a == x && (b == y && c == z))) := by
    rw [Bool.eq_iff_iff]; simp
  rw [he]
  have hfs : (Try.prog.fieldsOf 80).toList.map (fun f => (f.name, f.type, f.offset)) = [("At", 3, 0), ("Free", 27, 1)] := by kernel_rfl
  generalize (Try.prog.fieldsOf 80).toList = fs at hfs
  obtain ⟨f0, f1, rfl⟩ : ∃ f0 f1, fs = [f0, f1] := by
    cases fs with
    | nil => simp at hfs
    | cons f0 r =>
      cases r with
      | nil => simp at hfs
      | cons f1 r2 =>
        cases r2 with
        | nil => exact ⟨f0, f1, rfl⟩
        | cons _ _ => simp at hfs
  · simp only [List.map_cons, List.map_nil, List.cons.injEq, Prod.mk.injEq, and_true] at hfs
    obtain ⟨⟨n0, t0, o0⟩, n1, t1, o1⟩ := hfs
    have p0 : ∀ (l a b c : Int) (W : World), (part 3 #[.int .i64 l, .int .i64 a, .int .i64 b, .int .i64 c] 0).run Try.prog W = .ok (.int .i64 l) W := fun l a b c W => by simp [go_sem]
    have p1 : ∀ (l a b c : Int) (W : World), (part 27 #[.int .i64 l, .int .i64 a, .int .i64 b, .int .i64 c] 1).run Try.prog W = .ok (.agg #[.int .i64 a, .int .i64 b, .int .i64 c]) W := fun l a b c W => by simp [go_sem]
    have q0 : ∀ W : World, (Op.equalIn 9999 3 (.int .i64 l) (.int .i64 k)).run Try.prog W = .ok (l == k) W := fun W => run_equalIn_int W 9998 3 _ _ _ _ Try.underlying3
    simp only [Op.eqFields, n0, n1, t0, t1, o0, o1]
    rw [if_pos (by decide), if_pos (by decide)]
    simp only [Sem.run_bind, p0, Result.andThen_ok, q0]
    cases h1 : l == k
    · simp [go_sem]
    · simp only [hv, Sem.run_bind, p1, Result.andThen_ok, Bool.not_true, Bool.false_eq_true, if_false]
      cases h2 : (a == x && (b == y && c == z)) <;> simp [go_sem]

set_option maxHeartbeats 1000000 in
theorem equalPts_c (a b : Option Addr) (c d : Nat) (xs ys : List Nd) (hl : xs.length ≤ 1048576) (w : World) (h : Sq w a (flat xs)) (h' : Sq w b (flat ys)) :
    Calls Try.prog 45 #[.slice a xs.length c, .slice b ys.length d] w fun e w' => e = .returned (.bool (decide (xs = ys))) ∧ Below w.heap.size w w' := by
  have H : Hid (Sq w a (flat xs)) := h
  have H' : Hid (Sq w b (flat ys)) := h'
  clear h h'
  by_cases hlen : xs.length = ys.length
  · rw [← hlen]
    have Hlen : Hid (xs.length = ys.length) := by show _ = _; exact hlen
    clear hlen
    go_enter Try.func45, Try.ntmps45
    go_wp2_with fail
    go_loopw [13] (fun i wr => ∃ j : Nat, j ≤ xs.length ∧ i = .int .i64 j ∧ (∀ k, k < j → xs[k]? = ys[k]?) ∧ Below w.heap.size w wr) (fun i _ => xs.length - (intOf i).toNat)
    case atStart => exact ⟨0, Nat.zero_le _, rfl, fun k h => by omega, Below.refl _ _⟩
    case round =>
      obtain ⟨j, hj, rfl, he, hb⟩ := hrel
      have HE : Hid (∀ k, k < j → xs[k]? = ys[k]?) := he
      have HB : Hid (Below w.heap.size w wr) := hb
      clear he hb
      by_cases hlt : j < xs.length
      · have hlt' : j < ys.length := by have := Hlen.out; omega
        have hi0 : (0 : Int) ≤ (j : Int) := by omega
        have hi1 : (j : Int) < (xs.length : Int) := by omega
        have HSX := H.out.below HB.out
        have HSY := H'.out.below HB.out
        obtain ⟨p, rfl, _⟩ := HSX.node j hlt
        obtain ⟨q, rfl, _⟩ := HSY.node j hlt'
        have HX : Hid (xs[j]? = some xs[j]) := List.getElem?_eq_getElem hlt
        have HY : Hid (ys[j]? = some ys[j]) := List.getElem?_eq_getElem hlt'
        generalize xs[j] = x at HX
        generalize ys[j] = y at HY
        obtain ⟨m0, m1, m2, m3⟩ := Beh.node HSX HX.out
        obtain ⟨n0, n1, n2, n3⟩ := Beh.node HSY HY.out
        have hsome := beh_some wr
        have heq := eq_pt x y
        clear HSX HSY
        cases hd : decide (x = y)
        · rw [hd] at heq
          have HN : Hid (decide (xs = ys) = false) := by
            show _ = _
            rw [decide_eq_false_iff_not] at hd ⊢
            intro e
            have e1 := HX.out
            rw [e, HY.out] at e1
            exact hd (Option.some.inj e1).symm
          clear hd
          go_wp2_with fail
          refine wp_region_beh (by kernel_rfl) (by kernel_rfl) ?_
          repeat (go_big_quiet_step (fail))
          refine wpQuiet_nil ?_
          rintro ⟨w2, hb2⟩
          have HB4 : Hid (Below w.heap.size w w2) := below_then HB.out hb2
          go_wp2_with fail
          go_ret
          exact ⟨by rw [HN.out]; rfl, HB4.out⟩
        · rw [hd] at heq
          have Hd : Hid (x = y) := by show _ = _; exact of_decide_eq_true hd
          clear hd
          have HE1 : Hid (∀ k, k < j + 1 → xs[k]? = ys[k]?) := fun k hk => by
            by_cases e : k = j
            · subst e
              rw [HX.out, HY.out, Hd.out]
            · exact HE.out k (by omega)
          go_wp2_with fail
          refine wp_region_beh (by kernel_rfl) (by kernel_rfl) ?_
          repeat (go_big_quiet_step (fail))
          refine wpQuiet_nil ?_
          rintro ⟨w2, hb2⟩
          have HB4 : Hid (Below w.heap.size w w2) := below_then HB.out hb2
          go_wp2_with fail
          exact ⟨⟨j + 1, by omega, by go_num, HE1.out, HB4.out⟩, by simp [intOf]; omega⟩
      · have heq : decide (xs = ys) = true := by
          simp
          apply List.ext_getElem?
          intro k
          by_cases hk : k < xs.length
          · exact HE.out k (by omega)
          · rw [List.getElem?_eq_none (by omega), List.getElem?_eq_none (by have := Hlen.out; omega)]
        go_wp2_with fail
        go_ret
        exact ⟨by rw [heq]; rfl, HB.out⟩
  · have hne : decide (xs = ys) = false := by simp; intro e; exact hlen (by rw [e])
    have hi : ((xs.length : Int) == (ys.length : Int)) = false := by simp; omega
    go_enter Try.func45, Try.ntmps45
    go_wp2_with fail
    go_ret
    exact ⟨by rw [hne]; rfl, Below.refl _ _⟩

/-- Both are right, and equal. -/
def SameP (ms ns : List Nd) : Prop := POk ms ∧ POk ns ∧ ms = ns

set_option maxHeartbeats 1000000 in
theorem implSameProf_c (a b : Option Addr) (c d : Nat) (ms ns : List Nd) (w : World) (h : Sq w a (flat ms)) (h' : Sq w b (flat ns)) :
    Calls Try.prog 13 #[.agg #[.slice a ms.length c], .agg #[.slice b ns.length d]] w (Says w (SameP ms ns)) := by
  have H : Hid (Sq w a (flat ms)) := h
  have H' : Hid (Sq w b (flat ns)) := h'
  clear h h'
  go_enter Try.func13, Try.ntmps13
  go_wp2_with fail
  generalize hV : (w.alloc (.cells #[.slice a ms.length c] 25)).alloc (.cells #[.slice b ns.length d] 25) = V
  have HA : Hid (Row V w.heap.size [.slice a ms.length c]) := by subst hV; exact (row_fresh w [.slice a ms.length c] 25).below (low_alloc _ _)
  have HB : Hid (Row V (w.heap.size + 1) [.slice b ns.length d]) := by subst hV; have h := row_fresh (w.alloc (.cells #[.slice a ms.length c] 25)) [.slice b ns.length d] 25; rw [show (w.alloc (.cells #[.slice a ms.length c] 25)).heap.size = w.heap.size + 1 by simp [go_sem]] at h; exact h
  have HV : Hid (Below w.heap.size w V) := by subst hV; exact behind_alloc (low_alloc _ _) _
  clear hV
  refine (implProfOk_c a c ms _ (H.out.below HV.out)).mono ?_
  rintro e w1 ⟨k, rfl, hk, hb⟩
  have HB1 : Hid (Below V.heap.size V w1) := hb
  have HK : Hid (k = true ↔ POk ms) := hk
  have t0 := (HB.out.below hb).cell 0 _ rfl
  clear hb hk
  cases k
  · have HN : Hid (¬ SameP ms ns) := fun t => by have := HK.out.2 t.1; cases this
    go_wp2_with fail
    go_ret
    exact says_no rfl HN.out (below_then HV.out HB1.out)
  · have HY : Hid (POk ms) := HK.out.1 rfl
    clear HK
    go_wp2_with fail
    refine (implProfOk_c b d ns _ ((H'.out.below HV.out).below HB1.out)).mono ?_
    rintro e w2 ⟨k2, rfl, hk, hb⟩
    have HB2 : Hid (Below V.heap.size V w2) := below_then HB1.out hb
    have HK2 : Hid (k2 = true ↔ POk ns) := hk
    have t1 := (HA.out.below HB2.out).cell 0 _ rfl
    have t2 := (HB.out.below HB2.out).cell 0 _ rfl
    clear hb hk t0
    cases k2
    · have HN : Hid (¬ SameP ms ns) := fun t => by have := HK2.out.2 t.2.1; cases this
      go_wp2_with fail
      go_ret
      exact says_no rfl HN.out (below_then HV.out HB2.out)
    · have HY2 : Hid (POk ns) := HK2.out.1 rfl
      have hm := HY.out.few
      clear HK2
      go_wp2_with fail
      refine (equalPts_c a b c d ms ns (by omega) _ ((H.out.below HV.out).below HB2.out) ((H'.out.below HV.out).below HB2.out)).mono ?_
      rintro e w3 ⟨rfl, hb⟩
      have HB3 : Hid (Below V.heap.size V w3) := below_then HB2.out hb
      have HQ : Hid (decide (ms = ns) = true ↔ SameP ms ns) := ⟨fun h => ⟨HY.out, HY2.out, of_decide_eq_true h⟩, fun h => decide_eq_true h.2.2⟩
      generalize decide (ms = ns) = q at HQ
      clear hb t1 t2
      go_wp2_with fail
      go_ret
      exact ⟨q, rfl, HQ.out, below_then HV.out HB3.out⟩

end Go.Proofs.Ytdmgcbagijiohaa
