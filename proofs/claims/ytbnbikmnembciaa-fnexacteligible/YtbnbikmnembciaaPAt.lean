/- What is free at a time: the point of a right profile. -/
import Derived.Test.YtbnbikmnembciaaPrfB
namespace Go.Proofs.Ytbnbikmnembciaa
open Go.ChangeShapes Go.WideShapes Go.ChangeAt Go.RowKit

/-- How two numbers lie to each other. -/
def cmpV (x y : Int) : Int := if x < y then -1 else if y < x then 1 else 0

theorem isNaN_c (x : Int) (w : World) : Calls Try.prog 75 #[.int .i64 x] w fun e w' => e = .returned (.bool false) ∧ w' = w := by
  go_enter Try.func75, Try.ntmps75
  go_wp2
  go_ret
  exact ⟨by simp, rfl⟩

theorem compare_c (x y : Int) (w : World) : Calls Try.prog 73 #[.int .i64 x, .int .i64 y] w fun e w' => e = .returned (.int .i64 (cmpV x y)) ∧ w' = w := by
  by_cases h1 : x < y
  · have HC : Hid (cmpV x y = -1) := by show _ = _; rw [cmpV, if_pos h1]
    go_enter Try.func73, Try.ntmps73
    go_wp2_with (go_at_call 75; refine (isNaN_c _ _).mono ?_; rintro e w' ⟨rfl, rfl⟩)
    go_ret
    exact ⟨by rw [HC.out]; rfl, rfl⟩
  · by_cases h2 : y < x
    · have HC : Hid (cmpV x y = 1) := by show _ = _; rw [cmpV, if_neg h1, if_pos h2]
      go_enter Try.func73, Try.ntmps73
      go_wp2_with (go_at_call 75; refine (isNaN_c _ _).mono ?_; rintro e w' ⟨rfl, rfl⟩)
      go_ret
      exact ⟨by rw [HC.out]; rfl, rfl⟩
    · have HC : Hid (cmpV x y = 0) := by show _ = _; rw [cmpV, if_neg h1, if_neg h2]
      go_enter Try.func73, Try.ntmps73
      go_wp2_with (go_at_call 75; refine (isNaN_c _ _).mono ?_; rintro e w' ⟨rfl, rfl⟩)
      go_ret
      exact ⟨by rw [HC.out]; rfl, rfl⟩

theorem stepFn_c (n : Nd) (t : Int) (w : World) : Calls Try.prog 72 #[.agg #[.int .i64 n.l, .int .i64 n.a, .int .i64 n.b, .int .i64 n.c], .int .i64 t] w fun e w' => e = .returned (.int .i64 (cmpV n.l t)) ∧ Below w.heap.size w w' := by
  go_enter Try.func72, Try.ntmps72
  go_wp2_with fail
  refine (compare_c n.l t _).mono ?_
  rintro e w1 ⟨rfl, rfl⟩
  go_wp2_with fail
  go_ret
  exact ⟨rfl, low_alloc _ _⟩

/-- Points whose times rise. -/
def Rising (ns : List Nd) : Prop := ∀ (i : Nat) m n, ns[i]? = some m → ns[i + 1]? = some n → m.l < n.l
theorem POk.rising {ns : List Nd} (h : POk ns) : Rising ns := fun i m n hm hn => (h.step i m n hm hn).1
theorem Rising.lt {ns : List Nd} (h : Rising ns) (i : Nat) (m : Nd) (hm : ns[i]? = some m) : ∀ (d : Nat) n, ns[i + d + 1]? = some n → m.l < n.l
  | 0, n, hn => h i m n hm hn
  | d + 1, n, hn => by
    have hl : i + d + 1 < ns.length := by have := (List.getElem?_eq_some_iff.1 hn).1; omega
    have e := List.getElem?_eq_getElem hl
    have h1 := Rising.lt h i m hm d _ e
    have h2 := h (i + d + 1) _ n e hn
    omega
theorem Rising.mono {ns : List Nd} (h : Rising ns) {i j : Nat} {m n : Nd} (hm : ns[i]? = some m) (hn : ns[j]? = some n) (hij : i < j) : m.l < n.l := by
  obtain ⟨d, rfl⟩ : ∃ d, j = i + d + 1 := ⟨j - i - 1, by omega⟩
  exact h.lt i m hm d n hn

/-- What the search answers. -/
def Found (ns : List Nd) (t : Int) (w : World) (e : Ending) (w' : World) : Prop :=
  ∃ (i : Nat) (k : Bool), e = .returned (.tuple #[.int .i64 i, .bool k]) ∧ i ≤ ns.length ∧ (∀ j n, j < i → ns[j]? = some n → n.l < t) ∧ (∀ j n, i ≤ j → ns[j]? = some n → t ≤ n.l) ∧ (k = true ↔ ∃ n, ns[i]? = some n ∧ n.l = t) ∧ Below w.heap.size w w'

set_option maxHeartbeats 2000000 in
theorem search_c (b : Option Addr) (d : Nat) (ns : List Nd) (t : Int) (hl : ns.length ≤ 1048576) (hr : Rising ns) (w : World) (h : Sq w b (flat ns)) :
    Calls Try.prog 71 #[.slice b ns.length d, .int .i64 t, .func (.func 72) #[] #[]] w (Found ns t w) := by
  have H : Hid (Sq w b (flat ns)) := h
  have HR : Hid (Rising ns) := hr
  clear h hr
  go_enter Try.func71, Try.ntmps71
  go_wp2_with fail
  go_loopw [9, 10] (fun i j wr => ∃ lo hi : Nat, lo ≤ hi ∧ hi ≤ ns.length ∧ i = .int .i64 lo ∧ j = .int .i64 hi ∧ (∀ k n, k < lo → ns[k]? = some n → n.l < t) ∧ (∀ k n, hi ≤ k → ns[k]? = some n → t ≤ n.l) ∧ Below w.heap.size w wr) (fun i j _ => (intOf j).toNat - (intOf i).toNat)
  case atStart => exact ⟨0, ns.length, Nat.zero_le _, Nat.le_refl _, rfl, rfl, fun k n hk => by omega, fun k n hk hn => by have := (List.getElem?_eq_some_iff.1 hn).1; omega, Below.refl _ _⟩
  case round =>
    obtain ⟨lo, hi, hlh, hhl, rfl, rfl, hlo, hhi, hb⟩ := hrel
    have HLo : Hid (∀ k n, k < lo → ns[k]? = some n → n.l < t) := hlo
    have HHi : Hid (∀ k n, hi ≤ k → ns[k]? = some n → t ≤ n.l) := hhi
    have HB : Hid (Below w.heap.size w wr) := hb
    clear hlo hhi hb
    by_cases hlt : lo < hi
    · have hi1 : (lo : Int) < (hi : Int) := by omega
      have hm0 : lo ≤ (lo + hi) / 2 := by omega
      have hm1 : (lo + hi) / 2 < hi := by omega
      have hml : (lo + hi) / 2 < ns.length := by omega
      obtain ⟨p, rfl, c0, c1, c2, c3⟩ := (H.out.below HB.out).node ((lo + hi) / 2) hml
      have HX : Hid (ns[(lo + hi) / 2]? = some ns[(lo + hi) / 2]) := List.getElem?_eq_getElem hml
      generalize ns[(lo + hi) / 2] = n at c0 c1 c2 c3 HX
      go_wp2_with fail
      refine (stepFn_c n t _).mono ?_
      rintro e w1 ⟨rfl, hb⟩
      have HB1 : Hid (Below w.heap.size w w1) := below_then HB.out hb
      clear hb c0 c1 c2 c3
      by_cases hc : n.l < t
      · have hv : cmpV n.l t = -1 := by rw [cmpV, if_pos hc]
        have HL1 : Hid (∀ k m, k < (lo + hi) / 2 + 1 → ns[k]? = some m → m.l < t) := fun k m hk hm => by
          by_cases e : k = (lo + hi) / 2
          · subst e; rw [HX.out] at hm; cases hm; exact hc
          · have := HR.out.mono hm HX.out (by omega); omega
        rw [hv]
        clear hv
        go_wp2_with fail
        exact ⟨⟨(lo + hi) / 2 + 1, hi, by omega, hhl, by go_num, rfl, HL1.out, HHi.out, HB1.out⟩, by simp [intOf]; omega⟩
      · have hv : ¬ cmpV n.l t < 0 := by rw [cmpV, if_neg hc]; split <;> omega
        have HL1 : Hid (∀ k m, (lo + hi) / 2 ≤ k → ns[k]? = some m → t ≤ m.l) := fun k m hk hm => by
          by_cases e : k = (lo + hi) / 2
          · subst e; rw [HX.out] at hm; cases hm; omega
          · have := HR.out.mono HX.out hm (by omega); omega
        generalize cmpV n.l t = v at hv
        go_wp2_with fail
        exact ⟨⟨lo, (lo + hi) / 2, by omega, by omega, rfl, by go_num, HLo.out, HL1.out, HB1.out⟩, by simp [intOf]; omega⟩
    · obtain rfl : lo = hi := by omega
      by_cases hlt2 : lo < ns.length
      · have hj0 : (0 : Int) ≤ (lo : Int) := by omega
        have hj1 : (lo : Int) < (ns.length : Int) := by omega
        obtain ⟨p, rfl, c0, c1, c2, c3⟩ := (H.out.below HB.out).node lo hlt2
        have HX : Hid (ns[lo]? = some ns[lo]) := List.getElem?_eq_getElem hlt2
        generalize ns[lo] = n at c0 c1 c2 c3 HX
        go_wp2_with fail
        refine (stepFn_c n t _).mono ?_
        rintro e w1 ⟨rfl, hb⟩
        have HB1 : Hid (Below w.heap.size w w1) := below_then HB.out hb
        clear hb c0 c1 c2 c3
        have HK : Hid ((cmpV n.l t == 0) = true ↔ ∃ m, ns[lo]? = some m ∧ m.l = t) := by
          show _ ↔ _
          rw [HX.out]
          unfold cmpV
          constructor
          · intro h
            refine ⟨n, rfl, ?_⟩
            split at h
            · simp at h
            · split at h
              · simp at h
              · omega
          · rintro ⟨m, hm, rfl⟩
            cases hm
            simp
        generalize cmpV n.l t = v at HK
        go_wp2_with fail
        go_ret2
        exact ⟨lo, v == 0, rfl, hhl, HLo.out, HHi.out, HK.out, HB1.out⟩
      · obtain rfl : lo = ns.length := by omega
        have HK : Hid (false = true ↔ ∃ m, ns[ns.length]? = some m ∧ m.l = t) := by
          show _ ↔ _
          simp
        go_wp2_with fail
        go_ret2
        exact ⟨ns.length, false, rfl, Nat.le_refl _, HLo.out, HHi.out, HK.out, HB.out⟩
end Go.Proofs.Ytbnbikmnembciaa
