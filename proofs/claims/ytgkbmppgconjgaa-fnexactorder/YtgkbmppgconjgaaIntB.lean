/- Slices of numbers: marked, and found marked. -/
import Derived.Test.YtgkbmppgconjgaaIntA
namespace Go.Proofs.Ytgkbmppgconjgaa
open Go.ChangeShapes Go.WideShapes Go.ChangeAt Go.RowKit

/-- n numbers from k on. -/
def upFrom (k n : Nat) : List Value := (List.range n).map fun i => .int .i64 ((k + i : Nat) : Int)
theorem upFrom_len (k n : Nat) : (upFrom k n).length = n := by simp [upFrom]
theorem upFrom_get (k n i : Nat) (h : i < n) : (upFrom k n)[i]? = some (.int .i64 ((k + i : Nat) : Int)) := by simp [upFrom, h]

/-- The first j of the cells are marked. -/
def Marked (ys : List Value) (k n j : Nat) : Prop := ys.length = n ∧ ∀ i, i < n → i < j → ys[i]? = some (.int .i64 ((k + i : Nat) : Int))

theorem Marked.set {ys : List Value} {k n j : Nat} (h : Marked ys k n j) (hj : j < n) : Marked (ys.set j (.int .i64 ((k + j : Nat) : Int))) k n (j + 1) := by
  refine ⟨by rw [List.length_set]; exact h.1, fun i hi hij => ?_⟩
  by_cases e : i = j
  · subst e
    rw [List.getElem?_set_self (by rw [h.1]; exact hi)]
  · rw [List.getElem?_set_ne (fun e' => e e'.symm)]
    exact h.2 i hi (by omega)

theorem Marked.all {ys : List Value} {k n j : Nat} (h : Marked ys k n j) (hj : n ≤ j) : ys = upFrom k n := by
  apply List.ext_getElem?
  intro i
  by_cases hi : i < n
  · rw [h.2 i hi (by omega), upFrom_get k n i hi]
  · rw [List.getElem?_eq_none (by rw [h.1]; omega), List.getElem?_eq_none (by rw [upFrom_len]; omega)]


end Go.Proofs.Ytgkbmppgconjgaa
