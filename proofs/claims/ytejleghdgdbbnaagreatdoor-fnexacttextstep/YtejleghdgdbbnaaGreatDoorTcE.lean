/- The kind that a word names: the specification's loop; a command read of a text: the specification's. -/
import Derived.Test.YtejleghdgdbbnaaGreatDoorTcC
import Derived.Test.YtejleghdgdbbnaaGreatDoorMgUc
namespace Go.Proofs.YtejleghdgdbbnaaGreatDoor
open Go.ChangeShapes Go.WideShapes Go.ChangeAt Go.RowKit

theorem kwV_get (j : Nat) (h : j < 8) : kwV[j]? = some (.string ⟨(kws.getD j []).toArray⟩) := by
  match j, h with
  | 0, _ => rfl
  | 1, _ => rfl
  | 2, _ => rfl
  | 3, _ => rfl
  | 4, _ => rfl
  | 5, _ => rfl
  | 6, _ => rfl
  | 7, _ => rfl
theorem kd_iff (p : List UInt8) (j : Nat) (h1 : 1 ≤ j) (h : j < 8) : kws.getD j [] = p ↔ kdN p = j := by
  constructor
  · intro e
    subst e
    match j, h1, h with
    | 1, _, _ => rfl
    | 2, _, _ => rfl
    | 3, _, _ => rfl
    | 4, _, _ => rfl
    | 5, _, _ => rfl
    | 6, _, _ => rfl
    | 7, _, _ => rfl
  · intro e
    unfold kdN at e
    repeat' split at e
    all_goals (first | (exfalso; omega) | (subst e; simp_all [kws]))
/-- What the first j words have told. -/
def kdT (p : List UInt8) (j : Nat) : Nat := if kdN p < j then kdN p else 0
theorem kdT_hit {p : List UInt8} {j : Nat} (h : kdN p = j) : kdT p (j + 1) = j := by unfold kdT; rw [if_pos (by omega)]; exact h
theorem kdT_miss {p : List UInt8} {j : Nat} (h : kdN p ≠ j ∨ j = 0) : kdT p (j + 1) = kdT p j := by
  unfold kdT
  by_cases h1 : kdN p < j
  · rw [if_pos h1, if_pos (by omega)]
  · rw [if_neg h1]
    split
    · omega
    · rfl
theorem kdT_all (p : List UInt8) : kdT p 8 = kdN p := by unfold kdT; rw [if_pos (by have := kdN_le p; omega)]
end Go.Proofs.YtejleghdgdbbnaaGreatDoor
