/- How many leaves nodes have: the program and the specification. -/
import Derived.Test.YtcjamjfdkpgjkaaLfA
import Derived.Test.YtcjamjfdkpgjkaaTopJ
namespace Go.Proofs.Ytcjamjfdkpgjkaa
open Go.ChangeShapes Go.WideShapes Go.ChangeAt Go.RowKit

/-- The leaf of a node. -/
def leafOf (ns : List Nd) (x : Int) : Int := ((ns[x.toNat]?).map (·.l)).getD 0
/-- The different leaves of the first k nodes, as they come. -/
def seenTo (ns : List Nd) (xs : List Int) : Nat → List Int
  | 0 => []
  | k + 1 => match xs[k]? with
    | none => seenTo ns xs k
    | some x => if leafOf ns x ∈ seenTo ns xs k then seenTo ns xs k else seenTo ns xs k ++ [leafOf ns x]

theorem seen_len (ns : List Nd) (xs : List Int) : ∀ k, (seenTo ns xs k).length ≤ k
  | 0 => Nat.le_refl _
  | k + 1 => by
    have := seen_len ns xs k
    unfold seenTo
    split
    · omega
    · split
      · omega
      · simp; omega

theorem seen_old {ns : List Nd} {xs : List Int} {k : Nat} {x : Int} (hx : xs[k]? = some x) (h : leafOf ns x ∈ seenTo ns xs k) : seenTo ns xs (k + 1) = seenTo ns xs k := by
  rw [seenTo, hx]
  exact if_pos h
theorem seen_new {ns : List Nd} {xs : List Int} {k : Nat} {x : Int} (hx : xs[k]? = some x) (h : ¬ leafOf ns x ∈ seenTo ns xs k) : seenTo ns xs (k + 1) = seenTo ns xs k ++ [leafOf ns x] := by
  rw [seenTo, hx]
  exact if_neg h

/-- What 'Leaves' answers. -/
noncomputable def leavesR (ps : List Int) (ns : List Nd) (xs : List Int) : Int := open Classical in if NdOk ps ns xs then ((seenTo ns xs xs.length).length : Int) else -1

theorem leaf_of {ps : List Int} {ns : List Nd} (t : TopOk ps ns) {x : Int} (hx : isNd ns x) : ∃ (m : Nat) (n : Nd) (l : Nat), x = m ∧ ns[m]? = some n ∧ m < ns.length ∧ n.l = l ∧ l < ps.length ∧ leafOf ns x = l := by
  obtain ⟨h0, h1⟩ := hx
  obtain ⟨m, rfl⟩ : ∃ m : Nat, x = m := ⟨x.toNat, by omega⟩
  have hm : m < ns.length := by omega
  obtain ⟨h2, h3, _⟩ := t.node ns[m] (List.getElem_mem hm)
  refine ⟨m, ns[m], ns[m].l.toNat, rfl, List.getElem?_eq_getElem hm, hm, by omega, by omega, ?_⟩
  unfold leafOf
  rw [Int.toNat_natCast, List.getElem?_eq_getElem hm]
  simp
  omega


/-- A bool for each switch: whether it is in the list. -/
def bools (S : List Int) : List Value := (List.range 24).map fun (j : Nat) => .bool (decide ((j : Int) ∈ S))
theorem bools_len (S : List Int) : (bools S).length = 24 := by simp [bools]
theorem bools_at (S : List Int) (l : Nat) (h : l < 24) : (bools S)[l]? = some (.bool (decide ((l : Int) ∈ S))) := by simp [bools, h]
theorem bools_set (S : List Int) (l : Nat) (h : l < 24) : (bools S).set l (.bool true) = bools (S ++ [(l : Int)]) := by
  apply List.ext_getElem?
  intro i
  by_cases hi : i < 24
  · by_cases e : i = l
    · subst e
      rw [List.getElem?_set_self (by rw [bools_len]; exact hi), bools_at _ _ hi]
      simp
    · rw [List.getElem?_set_ne (by omega), bools_at _ _ hi, bools_at _ _ hi]
      congr 2
      simp
      omega
  · rw [List.getElem?_eq_none (by rw [List.length_set, bools_len]; omega), List.getElem?_eq_none (by rw [bools_len]; omega)]

end Go.Proofs.Ytcjamjfdkpgjkaa
