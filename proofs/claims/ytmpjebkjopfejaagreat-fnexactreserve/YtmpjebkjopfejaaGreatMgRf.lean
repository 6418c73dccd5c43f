/- ProfAt: the specification and the program. -/
import Derived.Test.YtmpjebkjopfejaaGreatMzPrfB
import Derived.Deep.RegionWith
namespace Go.Proofs.YtmpjebkjopfejaaGreat
open Go.ChangeShapes Go.WideShapes Go.ChangeAt Go.RowKit

/-- How two numbers lie to each other. -/
def cmpV (x y : Int) : Int := if x < y then -1 else if y < x then 1 else 0

theorem isNaN_c (x : Int) (w : World) : Calls Tryz.prog 136 #[.int .i64 x] w fun e w' => e = .returned (.bool false) ∧ w' = w := by
  go_enter Tryz.func136, Tryz.ntmps136
  go_wp2
  go_ret
  exact ⟨by simp, rfl⟩

theorem compare_c (x y : Int) (w : World) : Calls Tryz.prog 131 #[.int .i64 x, .int .i64 y] w fun e w' => e = .returned (.int .i64 (cmpV x y)) ∧ w' = w := by
  by_cases h1 : x < y
  · have HC : Hid (cmpV x y = -1) := by show _ = _; rw [cmpV, if_pos h1]
    go_enter Tryz.func131, Tryz.ntmps131
    go_wp2_with (go_at_call 136; refine (isNaN_c _ _).mono ?_; rintro e w' ⟨rfl, rfl⟩)
    go_ret
    exact ⟨by rw [HC.out]; rfl, rfl⟩
  · by_cases h2 : y < x
    · have HC : Hid (cmpV x y = 1) := by show _ = _; rw [cmpV, if_neg h1, if_pos h2]
      go_enter Tryz.func131, Tryz.ntmps131
      go_wp2_with (go_at_call 136; refine (isNaN_c _ _).mono ?_; rintro e w' ⟨rfl, rfl⟩)
      go_ret
      exact ⟨by rw [HC.out]; rfl, rfl⟩
    · have HC : Hid (cmpV x y = 0) := by show _ = _; rw [cmpV, if_neg h1, if_neg h2]
      go_enter Tryz.func131, Tryz.ntmps131
      go_wp2_with (go_at_call 136; refine (isNaN_c _ _).mono ?_; rintro e w' ⟨rfl, rfl⟩)
      go_ret
      exact ⟨by rw [HC.out]; rfl, rfl⟩

theorem stepFn_c (n : Nd) (t : Int) (w : World) : Calls Tryz.prog 130 #[.agg #[.int .i64 n.l, .int .i64 n.a, .int .i64 n.b, .int .i64 n.c], .int .i64 t] w fun e w' => e = .returned (.int .i64 (cmpV n.l t)) ∧ Below w.heap.size w w' := by
  go_enter Tryz.func130, Tryz.ntmps130
  go_wp2_with fail
  refine (compare_c n.l t _).mono ?_
  rintro e w1 ⟨rfl, rfl⟩
  go_wp2_with fail
  go_ret
  exact ⟨rfl, low_alloc _ _⟩

/-- Points whose times rise. -/
def Rising (ns : List Nd) : Prop := ∀ (i : Nat) m n, ns[i]? = some m → ns[i + 1]? = some n → m.l < n.l
theorem POk.rising {ns : List Nd} (h : POk ns) : Rising ns := fun i m n hm hn => (h.step i m n hm hn).1
theorem Rising.lt {ns : List Nd} (h : Rising ns) (i : Nat) (m : Nd) (hm : ns[i]? = some m) : ∀ (d : Nat) n, ns[i + d + 1]? = some n → m.l < n.l
  | 0, n, hn => h i m n hm hn
  | d + 1, n, hn => by
    have hl : i + d + 1 < ns.length := by have := (List.getElem?_eq_some_iff.1 hn).1; omega
    have e := List.getElem?_eq_getElem hl
    have h1 := Rising.lt h i m hm d _ e
    have h2 := h (i + d + 1) _ n e hn
    omega
theorem Rising.mono {ns : List Nd} (h : Rising ns) {i j : Nat} {m n : Nd} (hm : ns[i]? = some m) (hn : ns[j]? = some n) (hij : i < j) : m.l < n.l := by
  obtain ⟨d, rfl⟩ : ∃ d, j = i + d + 1 := ⟨j - i - 1, by omega⟩
  exact h.lt i m hm d n hn

/-- What the search answers. -/
def Found (ns : List Nd) (t : Int) (w : World) (e : Ending) (w' : World) : Prop :=
  ∃ (i : Nat) (k : Bool), e = .returned (.tuple #[.int .i64 i, .bool k]) ∧ i ≤ ns.length ∧ (∀ j n, j < i → ns[j]? = some n → n.l < t) ∧ (∀ j n, i ≤ j → ns[j]? = some n → t ≤ n.l) ∧ (k = true ↔ ∃ n, ns[i]? = some n ∧ n.l = t) ∧ Below w.heap.size w w'

set_option maxHeartbeats 2000000 in
theorem search_c (b : Option Addr) (d : Nat) (ns : List Nd) (t : Int) (hl : ns.length ≤ 1048576) (hr : Rising ns) (w : World) (h : Sq w b (flat ns)) :
    Calls Tryz.prog 129 #[.slice b ns.length d, .int .i64 t, .func (.func 130) #[] #[]] w (Found ns t w) := by
  have H : Hid (Sq w b (flat ns)) := h
  have HR : Hid (Rising ns) := hr
  clear h hr
  go_enter Tryz.func129, Tryz.ntmps129
  go_wp2_with fail
  go_loopw [9, 10] (fun i j wr => ∃ lo hi : Nat, lo ≤ hi ∧ hi ≤ ns.length ∧ i = .int .i64 lo ∧ j = .int .i64 hi ∧ (∀ k n, k < lo → ns[k]? = some n → n.l < t) ∧ (∀ k n, hi ≤ k → ns[k]? = some n → t ≤ n.l) ∧ Below w.heap.size w wr) (fun i j _ => (intOf j).toNat - (intOf i).toNat)
  case atStart => exact ⟨0, ns.length, Nat.zero_le _, Nat.le_refl _, rfl, rfl, fun k n hk => by omega, fun k n hk hn => by have := (List.getElem?_eq_some_iff.1 hn).1; omega, Below.refl _ _⟩
  case round =>
    obtain ⟨lo, hi, hlh, hhl, rfl, rfl, hlo, hhi, hb⟩ := hrel
    have HLo : Hid (∀ k n, k < lo → ns[k]? = some n → n.l < t) := hlo
    have HHi : Hid (∀ k n, hi ≤ k → ns[k]? = some n → t ≤ n.l) := hhi
    have HB : Hid (Below w.heap.size w wr) := hb
    clear hlo hhi hb
    by_cases hlt : lo < hi
    · have hi1 : (lo : Int) < (hi : Int) := by omega
      have hm0 : lo ≤ (lo + hi) / 2 := by omega
      have hm1 : (lo + hi) / 2 < hi := by omega
      have hml : (lo + hi) / 2 < ns.length := by omega
      obtain ⟨p, rfl, c0, c1, c2, c3⟩ := (H.out.below HB.out).node ((lo + hi) / 2) hml
      have HX : Hid (ns[(lo + hi) / 2]? = some ns[(lo + hi) / 2]) := List.getElem?_eq_getElem hml
      generalize ns[(lo + hi) / 2] = n at c0 c1 c2 c3 HX
      go_wp2_with fail
      refine (stepFn_c n t _).mono ?_
      rintro e w1 ⟨rfl, hb⟩
      have HB1 : Hid (Below w.heap.size w w1) := below_then HB.out hb
      clear hb c0 c1 c2 c3
      by_cases hc : n.l < t
      · have hv : cmpV n.l t = -1 := by rw [cmpV, if_pos hc]
        have HL1 : Hid (∀ k m, k < (lo + hi) / 2 + 1 → ns[k]? = some m → m.l < t) := fun k m hk hm => by
          by_cases e : k = (lo + hi) / 2
          · subst e; rw [HX.out] at hm; cases hm; exact hc
          · have := HR.out.mono hm HX.out (by omega); omega
        rw [hv]
        clear hv
        go_wp2_with fail
        exact ⟨⟨(lo + hi) / 2 + 1, hi, by omega, hhl, by go_num, rfl, HL1.out, HHi.out, HB1.out⟩, by simp [intOf]; omega⟩
      · have hv : ¬ cmpV n.l t < 0 := by rw [cmpV, if_neg hc]; split <;> omega
        have HL1 : Hid (∀ k m, (lo + hi) / 2 ≤ k → ns[k]? = some m → t ≤ m.l) := fun k m hk hm => by
          by_cases e : k = (lo + hi) / 2
          · subst e; rw [HX.out] at hm; cases hm; omega
          · have := HR.out.mono HX.out hm (by omega); omega
        generalize cmpV n.l t = v at hv
        go_wp2_with fail
        exact ⟨⟨lo, (lo + hi) / 2, by omega, by omega, rfl, by go_num, HLo.out, HL1.out, HB1.out⟩, by simp [intOf]; omega⟩
    · obtain rfl : lo = hi := by omega
      by_cases hlt2 : lo < ns.length
      · have hj0 : (0 : Int) ≤ (lo : Int) := by omega
        have hj1 : (lo : Int) < (ns.length : Int) := by omega
        obtain ⟨p, rfl, c0, c1, c2, c3⟩ := (H.out.below HB.out).node lo hlt2
        have HX : Hid (ns[lo]? = some ns[lo]) := List.getElem?_eq_getElem hlt2
        generalize ns[lo] = n at c0 c1 c2 c3 HX
        go_wp2_with fail
        refine (stepFn_c n t _).mono ?_
        rintro e w1 ⟨rfl, hb⟩
        have HB1 : Hid (Below w.heap.size w w1) := below_then HB.out hb
        clear hb c0 c1 c2 c3
        have HK : Hid ((cmpV n.l t == 0) = true ↔ ∃ m, ns[lo]? = some m ∧ m.l = t) := by
          show _ ↔ _
          rw [HX.out]
          unfold cmpV
          constructor
          · intro h
            refine ⟨n, rfl, ?_⟩
            split at h
            · simp at h
            · split at h
              · simp at h
              · omega
          · rintro ⟨m, hm, rfl⟩
            cases hm
            simp
        generalize cmpV n.l t = v at HK
        go_wp2_with fail
        go_ret2
        exact ⟨lo, v == 0, rfl, hhl, HLo.out, HHi.out, HK.out, HB1.out⟩
      · obtain rfl : lo = ns.length := by omega
        have HK : Hid (false = true ↔ ∃ m, ns[ns.length]? = some m ∧ m.l = t) := by
          show _ ↔ _
          simp
        go_wp2_with fail
        go_ret2
        exact ⟨ns.length, false, rfl, Nat.le_refl _, HLo.out, HHi.out, HK.out, HB.out⟩
end Go.Proofs.YtmpjebkjopfejaaGreat

namespace Go.Proofs.YtmpjebkjopfejaaGreat
open Go.ChangeShapes Go.WideShapes Go.ChangeAt Go.RowKit

def nd0 : Nd := ⟨0, 0, 0, 0⟩
/-- The last point that isn't later. -/
def atL (ns : List Nd) (t : Int) : Nd := ns.foldl (fun o n => if n.l ≤ t then n else o) nd0
theorem at_next {ns : List Nd} {j : Nat} {n : Nd} (t : Int) (h : ns[j]? = some n) : atL (ns.take (j + 1)) t = if n.l ≤ t then n else atL (ns.take j) t := by
  rw [List.take_add_one, h, Option.toList_some, atL, List.foldl_append]
  rfl

/-- The point s holds at t. -/
def StepAt (ns : List Nd) (t : Int) (s : Nat) : Prop := ∃ n, ns[s]? = some n ∧ n.l ≤ t ∧ ∀ k m, s < k → ns[k]? = some m → t < m.l

theorem StepAt.at {ns : List Nd} {t : Int} {s : Nat} {n : Nd} (h : StepAt ns t s) (hn : ns[s]? = some n) : atL ns t = n := by
  obtain ⟨n', hn', hle, hlt⟩ := h
  rw [hn] at hn'
  cases hn'
  have key : ∀ d, atL (ns.take (s + 1 + d)) t = n := fun d => by
    induction d with
    | zero => rw [Nat.add_zero, at_next t hn, if_pos hle]
    | succ d ih =>
      by_cases hd : s + 1 + d < ns.length
      · have e := List.getElem?_eq_getElem hd
        rw [show s + 1 + (d + 1) = s + 1 + d + 1 by omega, at_next t e, if_neg (by have := hlt _ _ (by omega) e; omega)]
        exact ih
      · rw [List.take_of_length_le (by omega)] at ih ⊢
        exact ih
  have := key ns.length
  rwa [List.take_of_length_le (by omega)] at this

theorem POk.head {ns : List Nd} (h : POk ns) : ∃ n, ns[0]? = some n ∧ n.l = 0 := by
  have h1 := h.one
  have e := List.getElem?_eq_getElem (show 0 < ns.length by omega)
  exact ⟨_, e, h.top _ e⟩

theorem POk.at_mem {ns : List Nd} (h : POk ns) {t : Int} (ht : 0 ≤ t) : ∃ (s : Nat) (n : Nd), StepAt ns t s ∧ ns[s]? = some n ∧ atL ns t = n := by
  -- the last point that isn't later
  have key : ∀ j, 1 ≤ j → j ≤ ns.length → ∃ s n, s < j ∧ ns[s]? = some n ∧ n.l ≤ t ∧ ∀ k m, s < k → k < j → ns[k]? = some m → t < m.l := by
    intro j
    induction j with
    | zero => intro h; omega
    | succ j ih =>
      intro _ hj
      by_cases h1 : j = 0
      · subst h1
        obtain ⟨n, hn, hl⟩ := h.head
        exact ⟨0, n, by omega, hn, by omega, fun k m hk hk2 => by omega⟩
      · obtain ⟨s, n, hs, hn, hle, hlt⟩ := ih (by omega) (by omega)
        have e := List.getElem?_eq_getElem (show j < ns.length by omega)
        by_cases hc : ns[j].l ≤ t
        · exact ⟨j, _, by omega, e, hc, fun k m hk hk2 => by omega⟩
        · refine ⟨s, n, by omega, hn, hle, fun k m hk hk2 hm => ?_⟩
          by_cases ek : k = j
          · subst ek; rw [e] at hm; cases hm; omega
          · exact hlt k m hk (by omega) hm
  obtain ⟨s, n, _, hn, hle, hlt⟩ := key ns.length h.one (Nat.le_refl _)
  have hst : StepAt ns t s := ⟨n, hn, hle, fun k m hk hm => hlt k m hk (List.getElem?_eq_some_iff.1 hm).1 hm⟩
  exact ⟨s, n, hst, hn, hst.at hn⟩

theorem POk.at_ok {ns : List Nd} (h : POk ns) {t : Int} (ht : 0 ≤ t) : vokB (atL ns t).a (atL ns t).b (atL ns t).c = true := by
  obtain ⟨s, n, _, hn, e⟩ := h.at_mem ht
  rw [e]
  exact (h.each s n hn).2

set_option maxHeartbeats 1000000 in
theorem step_c (b : Option Addr) (d : Nat) (ns : List Nd) (t : Int) (hok : POk ns) (ht : 0 ≤ t) (w : World) (h : Sq w b (flat ns)) :
    Calls Tryz.prog 119 #[.agg #[.slice b ns.length d], .int .i64 t] w fun e w' => ∃ s : Nat, e = .returned (.int .i64 s) ∧ s < ns.length ∧ StepAt ns t s ∧ Below w.heap.size w w' := by
  have H : Hid (Sq w b (flat ns)) := h
  have HO : Hid (POk ns) := hok
  have hf := hok.few
  clear h hok
  go_enter Tryz.func119, Tryz.ntmps119
  go_wp2_with fail
  have HV : Hid (Below w.heap.size w (w.alloc (.cells #[.slice b ns.length d] 44))) := low_alloc _ _
  generalize w.alloc (.cells #[.slice b ns.length d] 44) = V at HV
  refine (search_c b d ns t (by omega) HO.out.rising _ (H.out.below HV.out)).mono ?_
  rintro e w1 ⟨i, k, rfl, hi, hlo, hhi, hk, hb⟩
  have HB : Hid (Below w.heap.size w w1) := below_then HV.out hb
  clear hb
  cases k
  · have hnf : ∀ n, ns[i]? = some n → n.l ≠ t := fun n hn e => by have := hk.2 ⟨n, hn, e⟩; cases this
    obtain ⟨n0, hn0, hl0⟩ := HO.out.head
    have hi0 : i ≠ 0 := fun e => by
      subst e
      have h1 := hhi 0 n0 (Nat.le_refl _) hn0
      exact hnf n0 hn0 (by omega)
    obtain ⟨s, rfl⟩ : ∃ s, i = s + 1 := ⟨i - 1, by omega⟩
    have e := List.getElem?_eq_getElem (show s < ns.length by omega)
    have HS : Hid (StepAt ns t s) := ⟨_, e, by have := hlo s _ (by omega) e; omega, fun k m hk hm => by
      have h1 := hhi k m (by omega) hm
      by_cases ek : k = s + 1
      · subst ek; have := hnf m hm; omega
      · have e2 := List.getElem?_eq_getElem (show s + 1 < ns.length by have := (List.getElem?_eq_some_iff.1 hm).1; omega)
        have h2 := hhi (s + 1) _ (Nat.le_refl _) e2
        have h3 := HO.out.rising.mono e2 hm (by omega)
        omega⟩
    have hs : s < ns.length := by omega
    clear hnf hlo hhi hk e hi0 hn0 hl0
    go_wp2_with fail
    go_ret
    exact ⟨s, by simp, hs, HS.out, HB.out⟩
  · obtain ⟨n, hn, hl⟩ := hk.1 rfl
    have HS : Hid (StepAt ns t i) := ⟨n, hn, by omega, fun k m hk hm => by have := HO.out.rising.mono hn hm hk; omega⟩
    have hs : i < ns.length := (List.getElem?_eq_some_iff.1 hn).1
    clear hlo hhi hk hn hl
    go_wp2_with fail
    go_ret
    exact ⟨i, rfl, hs, HS.out, HB.out⟩

set_option maxHeartbeats 1000000 in
theorem at_c (b : Option Addr) (d : Nat) (ns : List Nd) (t : Int) (hok : POk ns) (ht : 0 ≤ t) (w : World) (h : Sq w b (flat ns)) :
    Calls Tryz.prog 94 #[.agg #[.slice b ns.length d], .int .i64 t] w fun e w' => e = .returned (.agg #[.int .i64 (atL ns t).a, .int .i64 (atL ns t).b, .int .i64 (atL ns t).c]) ∧ Below w.heap.size w w' := by
  have H : Hid (Sq w b (flat ns)) := h
  have HO : Hid (POk ns) := hok
  have h1 := hok.one
  obtain ⟨p, rfl, _⟩ := h.node 0 h1
  clear h hok
  go_enter Tryz.func94, Tryz.ntmps94
  go_wp2_with fail
  generalize hV : ((w.alloc (.cells #[.slice (some p) ns.length d] 44)).alloc (.cells #[.int .i64 0, .int .i64 0, .int .i64 0] 50)) = V
  have HA : Hid (Row V w.heap.size [.slice (some p) ns.length d]) := by subst hV; exact (row_fresh w [.slice (some p) ns.length d] 44).below (low_alloc _ _)
  have HR : Hid (Row V (w.heap.size + 1) [.int .i64 0, .int .i64 0, .int .i64 0]) := by
    subst hV
    have h := row_fresh (w.alloc (.cells #[.slice (some p) ns.length d] 44)) [.int .i64 0, .int .i64 0, .int .i64 0] 50
    rw [show (w.alloc (.cells #[.slice (some p) ns.length d] 44)).heap.size = w.heap.size + 1 by simp [go_sem]] at h
    exact h
  have HV : Hid (Below w.heap.size w V) := by subst hV; exact behind_alloc (low_alloc _ _) _
  have HSq : Hid (Sq V (some p) (flat ns)) := by subst hV; exact H.out.below (behind_alloc (low_alloc _ _) _)
  clear hV H
  have t0 := HA.out.cell 0 _ rfl
  go_region_with (go_at_call 119; refine (step_c (some p) d ns t HO.out ht V.drew (HSq.out.below (low_drew V))).mono ?_; rintro e w1 ⟨s, rfl, hs, hst, hb⟩; have HS : Hid (StepAt ns t s) := hst; have HB1 : Hid (Below V.heap.size V w1) := below_then (low_drew V) hb; have t1 := (HA.out.below HB1.out).cell 0 _ rfl; have HX : Hid (ns[s]? = some ns[s]) := List.getElem?_eq_getElem hs; obtain ⟨c0, c1, c2, c3⟩ := (HSq.out.below HB1.out).nodeAt HX.out; generalize ns[s] = n at c0 c1 c2 c3 HX; have r0 := (HR.out.below HB1.out).cell 0 _ rfl; have r1 := (HR.out.below HB1.out).cell 1 _ rfl; have r2 := (HR.out.below HB1.out).cell 2 _ rfl; have f0 := (HR.out.below HB1.out).free 0; have f1 := (HR.out.below HB1.out).free 1; have f2 := (HR.out.below HB1.out).free 2; have hs0 : (0 : Int) ≤ (s : Int) := (by omega); have hs1 : (s : Int) < (ns.length : Int) := (by omega); clear hb hst)
  all_goals
    have HE : Hid (atL ns t = n) := HS.out.at HX.out
    have HB2 : Below w.heap.size w w1 := below_then HV.out HB1.out
    go_wp2_with fail
    exact bodyPost_ret (v := .agg #[.int .i64 n.a, .int .i64 n.b, .int .i64 n.c]) (by simp [results, Tryz.results94, go_sem, *]) rfl ⟨by rw [HE.out], by go_grown⟩

set_option maxHeartbeats 1000000 in
theorem l03At_c (b : Option Addr) (d : Nat) (ns : List Nd) (t : Int) (hn : ns.length ≤ 1048576) (w : World) (h : Sq w b (flat ns)) :
    Calls Tryz.prog 76 #[.agg #[.slice b ns.length d], .int .i64 t] w fun e w' => e = .returned (.agg #[.int .i64 (atL ns t).a, .int .i64 (atL ns t).b, .int .i64 (atL ns t).c]) ∧ Below w.heap.size w w' := by
  have H : Hid (Sq w b (flat ns)) := h
  clear h
  go_enter Tryz.func76, Tryz.ntmps76
  go_wp2_with fail
  generalize hV : (((w.alloc (.cells #[.slice b ns.length d] 44)).alloc (.cells #[.int .i64 0, .int .i64 0, .int .i64 0] 50)).alloc (.cells #[.int .i64 0, .int .i64 0, .int .i64 0] 50)) = V
  have HR : Hid (Row V (w.heap.size + 1) [.int .i64 0, .int .i64 0, .int .i64 0]) := by
    subst hV
    have h := row_fresh (w.alloc (.cells #[.slice b ns.length d] 44)) [.int .i64 0, .int .i64 0, .int .i64 0] 50
    rw [show (w.alloc (.cells #[.slice b ns.length d] 44)).heap.size = w.heap.size + 1 by simp [go_sem]] at h
    exact h.below (low_alloc _ _)
  have HO : Hid (Row V (w.heap.size + 1 + 1) [.int .i64 0, .int .i64 0, .int .i64 0]) := by
    subst hV
    have h := row_fresh ((w.alloc (.cells #[.slice b ns.length d] 44)).alloc (.cells #[.int .i64 0, .int .i64 0, .int .i64 0] 50)) [.int .i64 0, .int .i64 0, .int .i64 0] 50
    rw [show ((w.alloc (.cells #[.slice b ns.length d] 44)).alloc (.cells #[.int .i64 0, .int .i64 0, .int .i64 0] 50)).heap.size = w.heap.size + 1 + 1 by simp [go_sem]] at h
    exact h
  have HV : Hid (Below w.heap.size w V) := by subst hV; exact behind_alloc (behind_alloc (low_alloc _ _) _) _
  have hVl := HO.out.lt
  clear hV
  go_loopw [12] (fun i wr => ∃ j : Nat, j ≤ ns.length ∧ i = .int .i64 j ∧ Row wr (w.heap.size + 1) [.int .i64 0, .int .i64 0, .int .i64 0] ∧ Row wr (w.heap.size + 1 + 1) [.int .i64 (atL (ns.take j) t).a, .int .i64 (atL (ns.take j) t).b, .int .i64 (atL (ns.take j) t).c] ∧ Below w.heap.size w wr) (fun i _ => ns.length - (intOf i).toNat)
  case atStart => exact ⟨0, Nat.zero_le _, rfl, HR.out, HO.out, HV.out⟩
  case round =>
    obtain ⟨j, hj, rfl, hr, ho, hb⟩ := hrel
    have HR1 : Hid (Row wr (w.heap.size + 1) [.int .i64 0, .int .i64 0, .int .i64 0]) := hr
    have HO1 : Hid (Row wr (w.heap.size + 1 + 1) [.int .i64 (atL (ns.take j) t).a, .int .i64 (atL (ns.take j) t).b, .int .i64 (atL (ns.take j) t).c]) := ho
    have HB : Hid (Below w.heap.size w wr) := hb
    have hOl := ho.lt
    clear hr ho hb HR HO HV
    by_cases hlt : j < ns.length
    · have hj0 : (0 : Int) ≤ (j : Int) := by omega
      have hj1 : (j : Int) < (ns.length : Int) := by omega
      obtain ⟨p2, rfl, c0, c1, c2, c3⟩ := (H.out.below HB.out).node j hlt
      have HX : Hid (ns[j]? = some ns[j]) := List.getElem?_eq_getElem hlt
      generalize ns[j] = n at c0 c1 c2 c3 HX
      have HK : Hid (atL (ns.take (j + 1)) t = if n.l ≤ t then n else atL (ns.take j) t) := at_next t HX.out
      have HO2 : Hid (Row (wr.alloc (.cells #[.int .i64 n.l, .int .i64 n.a, .int .i64 n.b, .int .i64 n.c] 109)) (w.heap.size + 1 + 1) [.int .i64 (atL (ns.take j) t).a, .int .i64 (atL (ns.take j) t).b, .int .i64 (atL (ns.take j) t).c]) := HO1.out.below (low_alloc _ _)
      have HR2 : Hid (Row (wr.alloc (.cells #[.int .i64 n.l, .int .i64 n.a, .int .i64 n.b, .int .i64 n.c] 109)) (w.heap.size + 1) [.int .i64 0, .int .i64 0, .int .i64 0]) := HR1.out.below (low_alloc _ _)
      have HB2 : Hid (Below w.heap.size w (wr.alloc (.cells #[.int .i64 n.l, .int .i64 n.a, .int .i64 n.b, .int .i64 n.c] 109))) := behind_alloc HB.out _
      by_cases hc : n.l ≤ t
      · rw [if_pos hc] at HK
        have o0 := HO1.out.cell 0 _ rfl
        have o1 := HO1.out.cell 1 _ rfl
        have o2 := HO1.out.cell 2 _ rfl
        have f0 := HO1.out.free 0
        have f1 := HO1.out.free 1
        have f2 := HO1.out.free 2
        have hne : w.heap.size + 1 + 1 ≠ wr.heap.size := by omega
        have HS := ((HO1.out.set 0 (by simp) (.int .i64 n.a)).set 1 (by simp) (.int .i64 n.b)).set 2 (by simp) (.int .i64 n.c)
        have HS2 : Hid (Row _ (w.heap.size + 1 + 1) [.int .i64 n.a, .int .i64 n.b, .int .i64 n.c]) := HS
        have HR3 := ((HR1.out.apart (w.heap.size + 1 + 1) 0 (.int .i64 n.a) (by omega)).apart (w.heap.size + 1 + 1) 1 (.int .i64 n.b) (by omega)).apart (w.heap.size + 1 + 1) 2 (.int .i64 n.c) (by omega)
        have HR4 : Hid (Row _ (w.heap.size + 1) [.int .i64 0, .int .i64 0, .int .i64 0]) := HR3
        have HB3 := ((HB.out.setCell (p := ⟨w.heap.size + 1 + 1, 0, none⟩) (by show w.heap.size ≤ w.heap.size + 1 + 1; omega) (.int .i64 n.a)).setCell (p := ⟨w.heap.size + 1 + 1, 1, none⟩) (by show w.heap.size ≤ w.heap.size + 1 + 1; omega) (.int .i64 n.b)).setCell (p := ⟨w.heap.size + 1 + 1, 2, none⟩) (by show w.heap.size ≤ w.heap.size + 1 + 1; omega) (.int .i64 n.c)
        have HB4 : Hid (Below w.heap.size w _) := HB3
        clear HS HR3 HB3
        go_wp2_with fail
        refine ⟨⟨j + 1, by omega, by go_num, HR4.out.below (low_alloc _ _), ?_, behind_alloc HB4.out _⟩, by simp [intOf]; omega⟩
        rw [HK.out]
        exact HS2.out.below (low_alloc _ _)
      · rw [if_neg hc] at HK
        go_wp2_with fail
        exact ⟨⟨j + 1, by omega, by go_num, HR2.out, by rw [HK.out]; exact HO2.out, HB2.out⟩, by simp [intOf]; omega⟩
    · obtain rfl : j = ns.length := by omega
      rw [List.take_length] at HO1
      have r0 := HR1.out.cell 0 _ rfl
      have r1 := HR1.out.cell 1 _ rfl
      have r2 := HR1.out.cell 2 _ rfl
      have f0 := HR1.out.free 0
      have f1 := HR1.out.free 1
      have f2 := HR1.out.free 2
      have o0 := HO1.out.cell 0 _ rfl
      have o1 := HO1.out.cell 1 _ rfl
      have o2 := HO1.out.cell 2 _ rfl
      have B8 := HB.out
      go_wp2_with fail
      exact bodyPost_ret (v := .agg #[.int .i64 (atL ns t).a, .int .i64 (atL ns t).b, .int .i64 (atL ns t).c]) (by simp [results, Tryz.results76, go_sem, *]) rfl ⟨rfl, by go_grown⟩
end Go.Proofs.YtmpjebkjopfejaaGreat

namespace Go.Proofs.YtmpjebkjopfejaaGreat
open Go.ChangeShapes Go.WideShapes Go.ChangeAt Go.RowKit

/-- What 'ProfAt' answers. -/
noncomputable def atR (ns : List Nd) (t : Int) : Nd := open Classical in if POk ns ∧ timeB t = true then atL ns t else nd0

end Go.Proofs.YtmpjebkjopfejaaGreat
