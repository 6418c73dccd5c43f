/- All that a heap holds, in order: the specification's HeapAll. -/
import Derived.Test.YtdmmjggkdkmeaaaHpF
namespace Go.Proofs.Ytdmmjggkdkmeaaa
open Go.ChangeShapes Go.WideShapes Go.ChangeAt Go.RowKit

theorem pop_ok {l : List Du} (h : POkp l) : HOk (dpop l) := by
  have h0 : 0 < l.length := List.length_pos_iff.2 h.2
  refine hok_of (by rw [dpop_len]; have := h.1.1; omega) (fun y hy => ?_) (dpop_heap h.1.heap)
  exact h.1.due ((dpop_perm h0).mem_iff.1 (List.mem_cons_of_mem _ hy))
/-- What is told of a list. -/
noncomputable def dallR (l : List Du) : List Du := by
  classical exact if HOk l then dall l.length l else []
theorem dall_next {cur : List Du} (h : cur ≠ []) : dall cur.length cur = dg cur 0 :: dall (cur.length - 1) (dpop cur) := by
  cases cur with
  | nil => exact absurd rfl h
  | cons a r => rw [List.length_cons, dall, if_neg (by simp), Nat.add_sub_cancel]
theorem dallR_yes {l : List Du} (h : POkp l) : dallR l = dg l 0 :: dall (l.length - 1) (dpop l) := by
  unfold dallR; rw [if_pos h.1, dall_next h.2]
theorem dallR_no {l : List Du} (h : ¬ POkp l) : dallR l = [] := by
  unfold dallR
  split
  · rename_i hk
    have : l = [] := Classical.byContradiction fun e => h ⟨hk, e⟩
    subst this; rfl
  · rfl
theorem dallR_pop {l : List Du} (h : POkp l) : dallR (dpop l) = dall (l.length - 1) (dpop l) := by
  unfold dallR
  rw [if_pos (pop_ok h), dpop_len]
def RestAt (W : World) (ob : Option Nat) (n : Nat) (xs : List Value) (v : Value) : Prop := ∃ a c, v = .slice a n c ∧ n ≤ c ∧ xs.length = 2 * n ∧ (n = 0 ∨ ∃ g, a = some ⟨g, 0, none⟩ ∧ ob ≠ some g ∧ Row W g xs)
theorem RestAt.of {W : World} {B T n : Nat} {xs : List Value} {v : Value} {ob : Option Nat} (h : AnsD B T W n xs v) (hc : CapD v n) (hob : ∀ g, ob = some g → g < B) : RestAt W ob n xs v := by
  obtain ⟨hx, a, cap, rfl, h⟩ := h
  obtain ⟨a2, c2, e, hle⟩ := hc
  cases e
  refine ⟨_, _, rfl, hle, hx, ?_⟩
  rcases h with h | ⟨g, rfl, hB, _, hr⟩
  · exact .inl h
  · exact .inr ⟨g, rfl, fun e => by have := hob g e; omega, hr⟩
theorem RestAt.sq {W : World} {ob : Option Nat} {n : Nat} {xs : List Value} {v : Value} (h : RestAt W ob n xs v) : ∃ a c, v = .slice a n c ∧ n ≤ c ∧ Sq W a xs := by
  obtain ⟨a, c, rfl, hle, hx, h⟩ := h
  refine ⟨a, c, rfl, hle, ?_⟩
  rcases h with rfl | ⟨g, rfl, _, hr⟩
  · have : xs = [] := List.length_eq_zero_iff.1 (by omega)
    subst this
    exact ⟨fun i u hu => by simp at hu⟩
  · exact Sq.of_row hr
theorem RestAt.keep {W W' : World} {ob : Option Nat} {n : Nat} {xs : List Value} {v : Value} (h : RestAt W ob n xs v) (hk : ∀ g, ob ≠ some g → Row W g xs → Row W' g xs) : RestAt W' ob n xs v := by
  obtain ⟨a, c, rfl, hle, hx, h⟩ := h
  refine ⟨a, c, rfl, hle, hx, ?_⟩
  rcases h with h | ⟨g, rfl, hg, hr⟩
  · exact .inl h
  · exact .inr ⟨g, rfl, hg, hk g hg hr⟩
theorem owns_setCs {w : World} {B n q : Nat} {e : TypeId} {v : Value} {xs : List Value} {size : Nat} (h : w.ownsRow B e size v n xs) (hq : v.ownBlock ≠ some q) (vs : List Value) (m : Nat) : (w.setCells q m vs).ownsRow B e size v n xs := by
  obtain ⟨hlen, h⟩ := h
  refine ⟨hlen, ?_⟩
  rcases h with h | ⟨g, cap, cur, rfl, hB, hg, r⟩
  · exact .inl h
  · refine .inr ⟨g, cap, cur, rfl, hB, ?_, r⟩
    have hne : g ≠ q := fun e => hq (by rw [← e]; rfl)
    have hlt : g < w.heap.size := by
      rcases Nat.lt_or_ge g w.heap.size with h' | h'
      · exact h'
      · rw [Array.getElem?_eq_none h'] at hg; cases hg
    have key : ∀ (vs : List Value) (m : Nat) (W : World), W.heap[g]? = w.heap[g]? → (W.setCells q m vs).heap[g]? = w.heap[g]? := by
      intro vs
      induction vs with
      | nil => intro m W h; exact h
      | cons v r ih => intro m W h; refine ih (m + 1) _ ?_; show (W.heap.modify q _)[g]? = _; rw [Array.getElem?_modify, if_neg (Ne.symm hne), h]
    rw [key vs m w rfl]
    exact hg
def AllAt (W : World) (q : Nat) (o r : Value) (cur acc : List Du) : Prop :=
  POkp cur ∧ acc.length + cur.length ≤ 200 ∧ Row W q [.int .i64 (dg cur 0).t, .int .i64 (dg cur 0).n] ∧ RestAt W o.ownBlock (dpop cur).length (flatD (dpop cur)) r
def msA (r k : Value) : Nat := match k, r with
  | .bool true, .slice _ n _ => n + 1
  | .bool true, _ => 1
  | _, _ => 0
def RetL (w : World) (r : List Du) (e : Ending) (w' : World) : Prop :=
  ∃ v, e = .returned v ∧ AnsD w.heap.size w'.heap.size w' r.length (flatD r) v ∧ Below w.heap.size w w'
theorem stay_any {P : Program} {ops : Array Oper} {Q : Exit → Act → World → Prop} {rest : List Oper} {o : Oper} {a : Act} {w : World} (h : Stay (wpList P ops Q (o :: rest) a w)) : wpList P ops Q (o :: rest) a w := h.out
set_option maxHeartbeats 4000000 in
set_option maxRecDepth 100000 in
theorem specHeapAll_c (b : Option Addr) (d : Nat) (l : List Du) (hl : l.length ≤ 1048576) (hd : l.length ≤ d) (w : World) (h : Sq w b (flatD l)) :
    Calls Try.prog 29 #[.slice b l.length d] w (RetL w (dallR l)) := by
  have H : Hid (Sq w b (flatD l)) := h
  clear h
  go_enter Try.func29, Try.ntmps29
  go_wp2_with fail
  have HO0 : Hid ((w.alloc (.cells #[] 30)).ownsRow w.heap.size 30 2 (.slice (some ⟨w.heap.size, 0, none⟩) 0 0) ([] : List Du).length (flatD [])) := World.ownsRow_made w #[] 0 (Nat.le_refl _) (by decide) rfl
  have HB0 : Hid (Below w.heap.size w (w.alloc (.cells #[] 30))) := low_alloc _ _
  have hs0 : w.heap.size < (w.alloc (.cells #[] 30)).heap.size := by simp [go_sem]
  generalize w.alloc (.cells #[] 30) = w0 at HO0 HB0 hs0 ⊢
  refine (specHeapPop_c b d l hl hd w0 (H.out.below HB0.out)).mono ?_
  rintro e w1 ⟨k, v, rfl, hk, ha, hc, hb⟩
  have HK : Hid (k = true ↔ POkp l) := hk
  have HRs : Hid (k = true → RestAt w1 (some w.heap.size) (dpop l).length (flatD (dpop l)) v) := fun e => by
    subst e
    exact RestAt.of ha hc (fun g e => by cases e; exact hs0)
  have HB1 : Hid (Below w.heap.size w w1) := below_then HB0.out hb
  have HO1 : Hid (w1.ownsRow w.heap.size 30 2 (.slice (some ⟨w.heap.size, 0, none⟩) 0 0) ([] : List Du).length (flatD [])) := ownsD_below HO0.out hb
  have hs1 : w.heap.size < w1.heap.size := Nat.lt_of_lt_of_le hs0 hb.size
  obtain ⟨y, hy⟩ : ∃ y, (bif k then dg l 0 else du0) = y := ⟨_, rfl⟩
  have HY : Hid (k = true → dg l 0 = y) := fun e => by subst e; exact hy
  rw [hy]
  have HE : Hid (([] : List Du) ++ (bif k then dg l 0 :: dall (l.length - 1) (dpop l) else []) = dallR l) := by
    show _ = _
    cases k
    · rw [dallR_no (fun t => by have := HK.out.2 t; cases this)]; rfl
    · rw [dallR_yes (HK.out.1 rfl)]; rfl
  clear hk ha hc hb hy HO0 HB0 hs0
  go_wp2_with fail
  have HB2 : Hid (Below w.heap.size w (w1.alloc (.cells #[.int .i64 y.t, .int .i64 y.n] 30))) := behind_alloc HB1.out _
  have HX2 : Hid (Row (w1.alloc (.cells #[.int .i64 y.t, .int .i64 y.n] 30)) w1.heap.size [.int .i64 y.t, .int .i64 y.n]) := row_fresh w1 [.int .i64 y.t, .int .i64 y.n] 30
  have HO2 : Hid ((w1.alloc (.cells #[.int .i64 y.t, .int .i64 y.n] 30)).ownsRow w.heap.size 30 2 (.slice (some ⟨w.heap.size, 0, none⟩) 0 0) ([] : List Du).length (flatD [])) := HO1.out.alloc _
  have HR2 : Hid (k = true → RestAt (w1.alloc (.cells #[.int .i64 y.t, .int .i64 y.n] 30)) (some w.heap.size) (dpop l).length (flatD (dpop l)) v) := fun e => (HRs.out e).keep fun g _ hr => hr.below (low_alloc _ _)
  clear HB1 HO1 HRs
  generalize w1.alloc (.cells #[.int .i64 y.t, .int .i64 y.n] 30) = w2 at HB2 HX2 HO2 HR2 ⊢
  generalize w1.heap.size = q at HX2 hs1 ⊢
  go_loopw [3, 5, 6] (fun o r kk wr => ∃ (k : Bool) (cur acc : List Du), kk = .bool k ∧ acc ++ (bif k then dg cur 0 :: dall (cur.length - 1) (dpop cur) else []) = dallR l ∧ (k = true → AllAt wr q o r cur acc) ∧ o.ownBlock ≠ some q ∧ wr.ownsRow w.heap.size 30 2 o acc.length (flatD acc) ∧ Below w.heap.size w wr) (fun _ r kk _ => msA r kk)
  case atStart =>
    exact ⟨k, l, [], rfl, HE.out, fun e => ⟨HK.out.1 e, by have := (HK.out.1 e).1.1; simp; omega, by rw [HY.out e]; exact HX2.out, HR2.out e⟩, (fun e => by have h2 : some w.heap.size = some q := e; have := Option.some.inj h2; omega), HO2.out, HB2.out⟩
  case round =>
    obtain ⟨k2, cur, acc, rfl, heq, hall, hob, hown, hb⟩ := hrel
    have HB : Hid (Below w.heap.size w wr) := hb
    have HO : Hid (wr.ownsRow w.heap.size 30 2 u3 acc.length (flatD acc)) := hown
    clear HB2 HX2 HO2 HR2 HE HK HY hb hown
    cases k2
    · have HE : Hid (dallR l = acc) := by show _ = _; rw [← heq]; simp
      clear heq hall
      go_wp2_with fail
      go_ret
      exact ⟨_, rfl, by rw [HE.out]; exact AnsD.of_owns HO.out, HB.out⟩
    · obtain ⟨hp, h200, hrow, hrest⟩ := hall rfl
      obtain ⟨a, c, rfl, hac, hsq⟩ := hrest.sq
      have HP : Hid (POkp cur) := hp
      have HRt : Hid (RestAt wr u3.ownBlock (dpop cur).length (flatD (dpop cur)) (.slice a (dpop cur).length c)) := hrest
      have HOb : Hid (u3.ownBlock ≠ some q) := hob
      have HL2 : Hid ((dpop cur).length = cur.length - 1) := dpop_len cur
      have hc0 : 0 < cur.length := List.length_pos_iff.2 hp.2
      obtain ⟨f, hf⟩ : ∃ f, dg cur 0 = f := ⟨_, rfl⟩
      rw [hf] at hrow
      have HX : Hid (Row wr q [.int .i64 f.t, .int .i64 f.n]) := hrow
      have HE : Hid ((acc ++ [f]) ++ dall (cur.length - 1) (dpop cur) = dallR l) := by
        show _ = _
        rw [← heq, hf]
        simp
      clear heq hall hob hp hrow hrest hsq hf
      obtain ⟨i0, hi, hz0, hz1, hz2⟩ := info_parts infoDue
      have d0 := HX.out.cell 0 _ rfl
      have d1 := HX.out.cell 1 _ rfl
      have HO3 : Hid ((wr.alloc (.cells #[.int .i64 f.t, .int .i64 f.n] 30)).ownsRow w.heap.size 30 2 u3 acc.length (flatD acc)) := HO.out.alloc _
      have HF3 : Hid (Row (wr.alloc (.cells #[.int .i64 f.t, .int .i64 f.n] 30)) wr.heap.size [.int .i64 f.t, .int .i64 f.n]) := row_fresh wr [.int .i64 f.t, .int .i64 f.n] 30
      have HX3 : Hid (Row (wr.alloc (.cells #[.int .i64 f.t, .int .i64 f.n] 30)) q [.int .i64 f.t, .int .i64 f.n]) := HX.out.below (low_alloc _ _)
      have HB3 : Hid (Below w.heap.size w (wr.alloc (.cells #[.int .i64 f.t, .int .i64 f.n] 30))) := behind_alloc HB.out _
      have HR3 : Hid (RestAt (wr.alloc (.cells #[.int .i64 f.t, .int .i64 f.n] 30)) u3.ownBlock (dpop cur).length (flatD (dpop cur)) (.slice a (dpop cur).length c)) := HRt.out.keep fun g _ hr => hr.below (low_alloc _ _)
      have hbase : w.heap.size ≤ (wr.alloc (.cells #[.int .i64 f.t, .int .i64 f.n] 30)).heap.size := HB3.out.size
      have HNw : Hid (∀ (j : Nat) (u : Value), ([.int .i64 f.t, .int .i64 f.n] : List Value)[j]? = some u → (wr.alloc (.cells #[.int .i64 f.t, .int .i64 f.n] 30)).cell? ((⟨wr.heap.size, 0, none⟩ : Addr).add j) = some u) := fun j u hu => by
        have e : (⟨wr.heap.size, 0, none⟩ : Addr).add j = ⟨wr.heap.size, j, none⟩ := by unfold Addr.add; split <;> simp_all
        rw [e]
        exact HF3.out.cell j u hu
      have H1w : Hid (∀ u ∈ ([.int .i64 f.t, .int .i64 f.n] : List Value), u.oneCell' = true) := fun u hu => by
        simp only [List.mem_cons, List.not_mem_nil, or_false] at hu
        rcases hu with rfl | rfl <;> rfl
      have h201 : acc.length + 1 ≤ 201 := by omega
      go_wp2_with (at_builtin; refine stay_any ?_)
      refine ⟨?_⟩
      refine (wpList_append_own_at _ rfl _ _ 23 rfl w.heap.size 30 i0 (.agg #[.int .i64 0, .int .i64 0]) 2 16 Try.underlying23 hi hz0 hz1 hz2 rfl (by decide) u3 acc.length (flatD acc) rfl HO3.out ⟨wr.heap.size, 0, none⟩ 1 1 [.int .i64 f.t, .int .i64 f.n] rfl rfl HNw.out H1w.out (Nat.le_trans h201 (by decide)) (Nat.le_trans (Nat.mul_le_mul_right 16 h201) (by decide)) hbase ?_)
      intro v4 w4 hown hgrow _ hblk
      have HO4 : Hid (w4.ownsRow w.heap.size 30 2 v4 (acc ++ [f]).length (flatD (acc ++ [f]))) := by
        show World.ownsRow _ _ _ _ _ _ _
        rw [flatD_add, List.length_append]
        exact hown
      have HX4 : Hid (Row w4 q [.int .i64 f.t, .int .i64 f.n]) := HX3.out.far hgrow (fun e => HOb.out e.symm)
      have HR4 : Hid (RestAt w4 u3.ownBlock (dpop cur).length (flatD (dpop cur)) (.slice a (dpop cur).length c)) := HR3.out.keep fun g hg hr => hr.far hgrow (fun e => hg e.symm)
      have HB4 : Hid (Below w.heap.size w w4) := HB3.out.grown hgrow hbase (fun g e => (HO3.out.lt g e).1)
      have HOb4 : Hid (v4.ownBlock ≠ some q) := fun e => by
        rcases hblk with h | h
        · rw [h] at e; exact HOb.out e
        · rw [h] at e
          have := Option.some.inj e
          have := HX3.out.lt
          omega
      clear hown hgrow hblk d0 d1 HO3 HF3 HX3 HB3 HR3 HRt HX HO HB HOb hi hz0 hz1 hz2 hbase
      obtain ⟨a', c', e, _, hsq⟩ := HR4.out.sq
      cases e
      have HPop : Hid (Calls Try.prog 26 #[.slice a (dpop cur).length c] w4 (RetG w4 (POkp (dpop cur)) (dg (dpop cur) 0) (dpop (dpop cur)))) := specHeapPop_c a c (dpop cur) (by have := HL2.out; omega) hac w4 hsq
      clear hsq
      go_wp2_with fail
      refine HPop.out.mono ?_
      rintro e w5 ⟨k5, v5, rfl, hk, ha, hc, hb⟩
      have HK5 : Hid (k5 = true ↔ POkp (dpop cur)) := hk
      have HO5 : Hid (w5.ownsRow w.heap.size 30 2 v4 (acc ++ [f]).length (flatD (acc ++ [f]))) := ownsD_below HO4.out hb
      have HX5 : Hid (Row w5 q [.int .i64 f.t, .int .i64 f.n]) := HX4.out.below hb
      have HB5 : Hid (Below w.heap.size w w5) := below_then HB4.out hb
      have hq : w.heap.size ≤ q := Nat.le_of_lt hs1
      have HV4 : Hid (∀ g, v4.ownBlock = some g → g < w4.heap.size) := fun g e => (HO4.out.lt g e).2
      have HA5 : Hid (AnsD w4.heap.size w5.heap.size w5 (bif k5 then dpop (dpop cur) else []).length (flatD (bif k5 then dpop (dpop cur) else [])) v5) := ha
      have HC5 : Hid (CapD v5 (bif k5 then dpop (dpop cur) else []).length) := hc
      have hq4 : q < w4.heap.size := HX4.out.lt
      have hn5 : k5 = true → ∃ aa cc, v5 = .slice aa (dpop (dpop cur)).length cc := fun e => by
        subst e
        obtain ⟨aa, cc, e, _⟩ := hc
        exact ⟨aa, cc, e⟩
      have HN5 : Hid (k5 = true → ∃ aa cc, v5 = .slice aa (dpop (dpop cur)).length cc) := hn5
      obtain ⟨y5, hy5⟩ : ∃ y, (bif k5 then dg (dpop cur) 0 else du0) = y := ⟨_, rfl⟩
      have HY5 : Hid (k5 = true → dg (dpop cur) 0 = y5) := fun e => by subst e; exact hy5
      rw [hy5]
      clear hk ha hc hb hy5 HO4 HX4 HB4 HR4 HPop hn5
      go_wp2_with (refine stay_store 30 ?_)
      refine ⟨?_⟩
      refine wpList_store_mid rfl 30 _ _ rfl q 0 _ rfl rfl (HX5.out.room 0 2 (by simp)) szDue (by simp [Value.oneCell']) ?_
      have HX6 : Hid (Row (w5.setCells q 0 [.int .i64 y5.t, .int .i64 y5.n]) q [.int .i64 y5.t, .int .i64 y5.n]) := HX5.out.setCs [.int .i64 y5.t, .int .i64 y5.n] 0 (by simp)
      have HB6 : Hid (Below w.heap.size w (w5.setCells q 0 [.int .i64 y5.t, .int .i64 y5.n])) := below_setCs hq _ _ HB5.out
      have HO6 : Hid ((w5.setCells q 0 [.int .i64 y5.t, .int .i64 y5.n]).ownsRow w.heap.size 30 2 v4 (acc ++ [f]).length (flatD (acc ++ [f]))) := owns_setCs HO5.out HOb4.out _ _
      have HR6 : Hid (k5 = true → RestAt (w5.setCells q 0 [.int .i64 y5.t, .int .i64 y5.n]) v4.ownBlock (dpop (dpop cur)).length (flatD (dpop (dpop cur))) v5) := fun e => by
        subst e
        exact RestAt.of (HA5.out.keep fun g hB _ hr => hr.apartCs (by omega) _ _) HC5.out HV4.out
      show wpList _ _ _ _ _ (w5.setCells q 0 [.int .i64 y5.t, .int .i64 y5.n])
      generalize w5.setCells q 0 [.int .i64 y5.t, .int .i64 y5.n] = w6 at HX6 HB6 HO6 HR6 ⊢
      clear HX5 HB5 HO5 HA5 HC5 HV4
      go_wp2_with fail
      refine ⟨⟨k5, dpop cur, acc ++ [f], rfl, ?_, fun e => ⟨HK5.out.1 e, by have := HL2.out; rw [List.length_append, List.length_singleton]; omega, by rw [HY5.out e]; exact HX6.out, HR6.out e⟩, HOb4.out, HO6.out, HB6.out⟩, ?_⟩
      · rw [← HE.out]
        congr 1
        cases k5
        · have h0 : dpop cur = [] := Classical.byContradiction fun e => by have := HK5.out.2 ⟨pop_ok HP.out, e⟩; cases this
          rw [← HL2.out, h0]
          rfl
        · have hk := HK5.out.1 rfl
          rw [← HL2.out, dall_next hk.2]
          rfl
      · cases k5
        · simp [msA]
        · obtain ⟨aa, cc, e⟩ := HN5.out rfl
          subst e
          have h1 := dpop_len (dpop cur)
          have h2 : 0 < (dpop cur).length := List.length_pos_iff.2 (HK5.out.1 rfl).2
          simp [msA]
          omega
end Go.Proofs.Ytdmmjggkdkmeaaa
