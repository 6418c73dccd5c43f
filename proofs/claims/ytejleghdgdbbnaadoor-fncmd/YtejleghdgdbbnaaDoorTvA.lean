/- TextVec: the specification's. -/
import Derived.Test.YtejleghdgdbbnaaDoorTvP
import Derived.Deep.Light
namespace Go.Proofs.YtejleghdgdbbnaaDoor
open Go.ChangeShapes Go.WideShapes Go.ChangeAt Go.RowKit

/-- The three numbers behind the first j pieces. -/
def ints3 (P : List (List UInt8)) (j : Nat) : List Value := [.int .i64 (if 0 < j then pn P 0 else 0), .int .i64 (if 1 < j then pn P 1 else 0), .int .i64 (if 2 < j then pn P 2 else 0)]

theorem ints3_step (P : List (List UInt8)) (j : Nat) (h : j < 3) : (ints3 P j).set j (.int .i64 (pn P j)) = ints3 P (j + 1) := by
  rcases j with _ | _ | _ | j
  · simp [ints3]
  · simp [ints3]
  · simp [ints3]
  · omega

theorem ints3_on (P : List (List UInt8)) (j : Nat) (h : 3 ≤ j) : ints3 P j = ints3 P (j + 1) := by
  have e : ∀ i, i < 3 → (i < j) = (i < j + 1) := fun i hi => by rw [eq_iff_iff]; omega
  simp only [ints3, e 0 (by omega), e 1 (by omega), e 2 (by omega)]

theorem ints3_end (P : List (List UInt8)) : ints3 P P.length = [.int .i64 (pn P 0), .int .i64 (pn P 1), .int .i64 (pn P 2)] := by
  have e : ∀ i : Nat, (if i < P.length then pn P i else 0) = pn P i := by
    intro i
    split
    · rfl
    · rename_i h
      rw [pn, List.getElem?_eq_none (by omega)]
      rfl
  simp only [ints3, e]

theorem pn_at (P : List (List UInt8)) (j : Nat) (h : j < P.length) : pn P j = (tnR P[j]).1 := by
  rw [pn, List.getElem?_eq_getElem h]; rfl

theorem tn_bound (p : List UInt8) : 0 ≤ (tnR p).1 ∧ (tnR p).1 ≤ 1000000000 := by
  cases h : (tnR p).2
  · rw [tn_false h]; omega
  · have e := tn_true h
    unfold tnR at h ⊢
    cases hd : Lib.decFrom 0 p with
    | none => simp
    | some n =>
      simp only [hd] at h ⊢
      by_cases hn : numL n = p
      · simp only [if_pos hn]
        have := (num_some hn (num_ne_nil hd hn)).1
        exact tim_yes this
      · simp [if_neg hn]

end Go.Proofs.YtejleghdgdbbnaaDoor
