/- The specification's change of a profile: the walk. -/
import Derived.Test.YtbnbikmnembciaaTkC
import Derived.Deep.DeepCutAuto
namespace Go.Proofs.Ytbnbikmnembciaa
open Go.ChangeShapes Go.WideShapes Go.ChangeAt Go.RowKit

theorem ch_here {g : Nd → Option Nd} {ns : List Nd} {f u : Int} {ts : List Int} {j : Nat} {t : Int} {out : List Nd} (ht : ts[j]? = some t) : chTo g ns f u (ts.drop j) out =
    if f ≤ t ∧ t < u then (match g (atL ns t) with | none => none | some m => chTo g ns f u (ts.drop (j + 1)) (putN out ⟨t, m.a, m.b, m.c⟩)) else chTo g ns f u (ts.drop (j + 1)) (putN out ⟨t, (atL ns t).a, (atL ns t).b, (atL ns t).c⟩) := by
  obtain ⟨hj, e⟩ := List.getElem?_eq_some_iff.1 ht
  rw [List.drop_eq_getElem_cons hj, e]
  rfl

end Go.Proofs.Ytbnbikmnembciaa
