/- What is free at a time: the point of a right profile. -/
import Derived.Test.YtgkbmppgconjgaaPrfB
namespace Go.Proofs.Ytgkbmppgconjgaa
open Go.ChangeShapes Go.WideShapes Go.ChangeAt Go.RowKit

/-- How two numbers lie to each other. -/
def cmpV (x y : Int) : Int := if x < y then -1 else if y < x then 1 else 0

theorem isNaN_c (x : Int) (w : World) : Calls Try.prog 51 #[.int .i64 x] w fun e w' => e = .returned (.bool false) ∧ w' = w := by
  go_enter Try.func51, Try.ntmps51
  go_wp2
  go_ret
  exact ⟨by simp, rfl⟩

theorem compare_c (x y : Int) (w : World) : Calls Try.prog 34 #[.int .i64 x, .int .i64 y] w fun e w' => e = .returned (.int .i64 (cmpV x y)) ∧ w' = w := by
  by_cases h1 : x < y
  · have HC : Hid (cmpV x y = -1) := by show _ = _; rw [cmpV, if_pos h1]
    go_enter Try.func34, Try.ntmps34
    go_wp2_with (go_at_call 51; refine (isNaN_c _ _).mono ?_; rintro e w' ⟨rfl, rfl⟩)
    go_ret
    exact ⟨by rw [HC.out]; rfl, rfl⟩
  · by_cases h2 : y < x
    · have HC : Hid (cmpV x y = 1) := by show _ = _; rw [cmpV, if_neg h1, if_pos h2]
      go_enter Try.func34, Try.ntmps34
      go_wp2_with (go_at_call 51; refine (isNaN_c _ _).mono ?_; rintro e w' ⟨rfl, rfl⟩)
      go_ret
      exact ⟨by rw [HC.out]; rfl, rfl⟩
    · have HC : Hid (cmpV x y = 0) := by show _ = _; rw [cmpV, if_neg h1, if_neg h2]
      go_enter Try.func34, Try.ntmps34
      go_wp2_with (go_at_call 51; refine (isNaN_c _ _).mono ?_; rintro e w' ⟨rfl, rfl⟩)
      go_ret
      exact ⟨by rw [HC.out]; rfl, rfl⟩

/-- Points whose times rise. -/
def Rising (ns : List Nd) : Prop := ∀ (i : Nat) m n, ns[i]? = some m → ns[i + 1]? = some n → m.l < n.l
theorem POk.rising {ns : List Nd} (h : POk ns) : Rising ns := fun i m n hm hn => (h.step i m n hm hn).1
theorem Rising.lt {ns : List Nd} (h : Rising ns) (i : Nat) (m : Nd) (hm : ns[i]? = some m) : ∀ (d : Nat) n, ns[i + d + 1]? = some n → m.l < n.l
  | 0, n, hn => h i m n hm hn
  | d + 1, n, hn => by
    have hl : i + d + 1 < ns.length := by have := (List.getElem?_eq_some_iff.1 hn).1; omega
    have e := List.getElem?_eq_getElem hl
    have h1 := Rising.lt h i m hm d _ e
    have h2 := h (i + d + 1) _ n e hn
    omega
theorem Rising.mono {ns : List Nd} (h : Rising ns) {i j : Nat} {m n : Nd} (hm : ns[i]? = some m) (hn : ns[j]? = some n) (hij : i < j) : m.l < n.l := by
  obtain ⟨d, rfl⟩ : ∃ d, j = i + d + 1 := ⟨j - i - 1, by omega⟩
  exact h.lt i m hm d n hn

/-- What the search answers. -/
def Found (ns : List Nd) (t : Int) (w : World) (e : Ending) (w' : World) : Prop :=
  ∃ (i : Nat) (k : Bool), e = .returned (.tuple #[.int .i64 i, .bool k]) ∧ i ≤ ns.length ∧ (∀ j n, j < i → ns[j]? = some n → n.l < t) ∧ (∀ j n, i ≤ j → ns[j]? = some n → t ≤ n.l) ∧ (k = true ↔ ∃ n, ns[i]? = some n ∧ n.l = t) ∧ Below w.heap.size w w'

end Go.Proofs.Ytgkbmppgconjgaa
