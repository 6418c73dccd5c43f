/- The least of a time: lists, and the specification. -/
import Derived.Test.YtgkbmppgconjgaaPAtC
import Derived.Test.YtgkbmppgconjgaaVecH
namespace Go.Proofs.Ytgkbmppgconjgaa
open Go.ChangeShapes Go.WideShapes Go.ChangeAt Go.RowKit

/-- Of each of the three the lesser one. -/
def vmin (m n : Nd) : Nd := ⟨m.l, min m.a n.a, min m.b n.b, min m.c n.c⟩
theorem vmin_self (n : Nd) : vmin n n = n := by
  obtain ⟨l, a, b, c⟩ := n
  simp [vmin]
def vokN (n : Nd) : Bool := vokB n.a n.b n.c
theorem vmin_ok {m n : Nd} (h1 : vokN m = true) (h2 : vokN n = true) : vokN (vmin m n) = true := vok_min h1 h2

/-- The least of the first j points of the time from f to t, and of what is free at f. -/
def minTo (ns : List Nd) (f t : Int) (j : Nat) : Nd := (ns.take j).foldl (fun o n => if f ≤ n.l ∧ n.l < t then vmin o n else o) (atL ns f)
theorem min_next {ns : List Nd} {f t : Int} {j : Nat} {n : Nd} (h : ns[j]? = some n) : minTo ns f t (j + 1) = if f ≤ n.l ∧ n.l < t then vmin (minTo ns f t j) n else minTo ns f t j := by
  rw [minTo, List.take_add_one, h, Option.toList_some, List.foldl_append]
  rfl

theorem min_ok {ns : List Nd} (h : POk ns) {f t : Int} (hf : 0 ≤ f) : ∀ j, vokN (minTo ns f t j) = true
  | 0 => h.at_ok hf
  | j + 1 => by
    by_cases hj : j < ns.length
    · have e := List.getElem?_eq_getElem hj
      rw [min_next e]
      split
      · exact vmin_ok (min_ok h hf j) (h.each j _ e).2
      · exact min_ok h hf j
    · have := min_ok h hf j (t := t)
      unfold minTo at *
      rw [List.take_of_length_le (by omega)] at *
      exact this

/-- Up to the point that holds at f nothing turns. -/
theorem min_first {ns : List Nd} (h : Rising ns) {f t : Int} {s : Nat} (hs : StepAt ns f s) : minTo ns f t (s + 1) = atL ns f := by
  obtain ⟨n, hn, hle, hlt⟩ := hs
  have hat := StepAt.at ⟨n, hn, hle, hlt⟩ hn
  have key : ∀ j, j ≤ s → minTo ns f t j = atL ns f := by
    intro j
    induction j with
    | zero => intro _; rfl
    | succ j ih =>
      intro hj
      have e := List.getElem?_eq_getElem (show j < ns.length by have := (List.getElem?_eq_some_iff.1 hn).1; omega)
      have := h.mono e hn (by omega)
      rw [min_next e, if_neg (by omega), ih (by omega)]
  rw [min_next hn, key s (Nat.le_refl _), hat, vmin_self]
  split <;> rfl

/-- Behind the time nothing turns. -/
theorem min_rest {ns : List Nd} (h : Rising ns) {f t : Int} {j : Nat} {n : Nd} (hn : ns[j]? = some n) (hl : t ≤ n.l) : ∀ d, minTo ns f t (j + d) = minTo ns f t j
  | 0 => rfl
  | d + 1 => by
    rw [← min_rest h hn hl d]
    by_cases hj : j + d < ns.length
    · have e := List.getElem?_eq_getElem hj
      have hge : t ≤ ns[j + d].l := by
        by_cases hd : d = 0
        · subst hd
          have e' : ns[j]? = some ns[j + 0] := e
          rw [hn] at e'
          rw [← Option.some.inj e']
          exact hl
        · have := h.mono hn e (by omega); omega
      rw [show j + (d + 1) = j + d + 1 by omega, min_next e, if_neg (by omega)]
    · unfold minTo
      rw [List.take_of_length_le (by omega), List.take_of_length_le (by omega)]

/-- A span. -/
def spanB (f t : Int) : Bool := timeB f && (timeB t && decide (f < t))
theorem span_iff {f t : Int} : spanB f t = true ↔ (0 ≤ f ∧ f ≤ 1000000000) ∧ (0 ≤ t ∧ t ≤ 1000000000) ∧ f < t := by
  simp [spanB, timeB, and_assoc]

open Classical in
/-- Whether 'ProfMin' can answer, and what. -/
noncomputable def minK (ns : List Nd) (f t : Int) : Bool := decide (POk ns) && spanB f t
noncomputable def minR (ns : List Nd) (f t : Int) : Nd := bif minK ns f t then minTo ns f t ns.length else nd0

end Go.Proofs.Ytgkbmppgconjgaa
