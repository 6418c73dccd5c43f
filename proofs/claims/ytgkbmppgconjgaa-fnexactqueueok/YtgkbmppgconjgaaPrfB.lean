/- Whether a profile is right: the loop over its points. -/
import Derived.Test.YtgkbmppgconjgaaPrfA
import Derived.Test.YtgkbmppgconjgaaBehA
namespace Go.Proofs.Ytgkbmppgconjgaa
open Go.ChangeShapes Go.WideShapes Go.ChangeAt Go.RowKit

theorem same_comm (a b c x y z : Int) : (a == x && (b == y && c == z)) = (x == a && (y == b && z == c)) := by
  rw [Bool.eq_iff_iff]; simp; omega

/-- The first j points are right. -/
structure PTo (ns : List Nd) (j : Nat) : Prop where
  each : ∀ (i : Nat) n, i < j → ns[i]? = some n → timeB n.l = true ∧ vokB n.a n.b n.c = true
  step : ∀ (i : Nat) m n, i + 1 < j → ns[i]? = some m → ns[i + 1]? = some n → m.l < n.l ∧ sameV m n = false

theorem PTo.start (ns : List Nd) : PTo ns 0 := ⟨fun _ _ h => by omega, fun _ _ _ h => by omega⟩
theorem PTo.all {ns : List Nd} {j : Nat} (h : PTo ns j) (hj : ns.length ≤ j) (h1 : 1 ≤ ns.length) (h2 : ns.length ≤ 200) (h3 : ∀ n, ns[0]? = some n → n.l = 0) : POk ns :=
  ⟨h1, h2, h3, fun i n hi => h.each i n (by have := (List.getElem?_eq_some_iff.1 hi).1; omega) hi, fun i m n hm hn => h.step i m n (by have := (List.getElem?_eq_some_iff.1 hn).1; omega) hm hn⟩
theorem PTo.first {ns : List Nd} {n : Nd} (hn : ns[0]? = some n) (h1 : timeB n.l = true) (h2 : vokB n.a n.b n.c = true) : PTo ns 1 :=
  ⟨fun i m hi hm => by obtain rfl : i = 0 := by omega
                       rw [hn] at hm; cases hm; exact ⟨h1, h2⟩, fun _ _ _ h => by omega⟩
theorem PTo.next {ns : List Nd} {i : Nat} {m n : Nd} (h : PTo ns (i + 1)) (hm : ns[i]? = some m) (hn : ns[i + 1]? = some n) (h1 : timeB n.l = true) (h2 : vokB n.a n.b n.c = true) (h3 : m.l < n.l) (h4 : sameV m n = false) : PTo ns (i + 1 + 1) := by
  refine ⟨fun k x hk hx => ?_, fun k x y hk hx hy => ?_⟩
  · by_cases e : k = i + 1
    · subst e; rw [hn] at hx; cases hx; exact ⟨h1, h2⟩
    · exact h.each k x (by omega) hx
  · by_cases e : k = i
    · subst e; rw [hm] at hx; rw [hn] at hy; cases hx; cases hy; exact ⟨h3, h4⟩
    · exact h.step k x y (by omega) hx hy



end Go.Proofs.Ytgkbmppgconjgaa
