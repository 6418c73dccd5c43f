/- Whether a topology is right, by the specification. -/
import Derived.Test.YtgkbmppgconjgaaTopF
namespace Go.Proofs.Ytgkbmppgconjgaa
open Go.ChangeShapes Go.WideShapes Go.ChangeAt Go.RowKit

/-- A right topology. -/
structure TopOk (ps : List Int) (ns : List Nd) : Prop where
  one : 1 ≤ ps.length
  few : ps.length ≤ 24
  nodes : ns.length ≤ 24
  top : ps[0]? = some 0
  tree : treeB ps
  node : ∀ n ∈ ns, 0 ≤ n.l ∧ n.l < ps.length ∧ kidsTo ps n.l ps.length = [] ∧ vokB n.a n.b n.c = true
  level : 0 ≤ lvF ps ps.length 0

/-- The answer says whether P holds. -/
def Says (w : World) (P : Prop) (e : Ending) (w' : World) : Prop := ∃ k : Bool, e = .returned (.bool k) ∧ (k = true ↔ P) ∧ Below w.heap.size w w'

theorem says_no {w w' : World} {P : Prop} {e : Ending} (he : e = .returned (.bool false)) (h : ¬ P) (hb : Below w.heap.size w w') : Says w P e w' := ⟨false, he, by simp [h], hb⟩
theorem says_yes {w w' : World} {P : Prop} {e : Ending} (he : e = .returned (.bool true)) (h : P) (hb : Below w.heap.size w w') : Says w P e w' := ⟨true, he, by simp [h], hb⟩

end Go.Proofs.Ytgkbmppgconjgaa
