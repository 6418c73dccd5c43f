/- ProfCut: the program and the specification. -/
import Derived.Test.YtgkbmppgconjgaaPCut
import Derived.Deep.RegionWith
import Derived.Deep.DeepCutAuto
namespace Go.Proofs.Ytgkbmppgconjgaa
open Go.ChangeShapes Go.WideShapes Go.ChangeAt Go.RowKit

/-- What a function that answers a profile answers. -/
def RetQ (w : World) (r : List Nd) (e : Ending) (w' : World) : Prop := ∃ v, e = .returned (.agg #[v]) ∧ AnsP w.heap.size w'.heap.size w' r.length (flat r) v ∧ Below w.heap.size w w'

theorem cut_no {ns : List Nd} {t : Int} (h : ¬ (POk ns ∧ timeB t = true)) : cutR ns t = [] := by rw [cutR, if_neg h]
theorem cut_yes {ns : List Nd} {t : Int} (h : POk ns) (ht : timeB t = true) : cutR ns t = at0 ns t :: lateTo ns t ns.length := by rw [cutR, if_pos ⟨h, ht⟩]

end Go.Proofs.Ytgkbmppgconjgaa
