/- Whether a topology is right, by the program; its switches and their levels. -/
import Derived.Test.YtgkbmppgconjgaaLvB
import Derived.Test.YtgkbmppgconjgaaTopI
import Derived.Test.YtgkbmppgconjgaaVecC
namespace Go.Proofs.Ytgkbmppgconjgaa
open Go.ChangeShapes Go.WideShapes Go.ChangeAt Go.RowKit

theorem TopOk.treeOk {ps : List Int} {ns : List Nd} (t : TopOk ps ns) : TreeOk ps := ⟨t.one, t.few, t.top, t.tree, t.level⟩

theorem TreeOk.topOk {ps : List Int} {ns : List Nd} (t : TreeOk ps) (hn : ns.length ≤ 24) (h : ∀ n ∈ ns, 0 ≤ n.l ∧ n.l < ps.length ∧ lvN ps n.l = 0 ∧ vokB n.a n.b n.c = true) : TopOk ps ns :=
  ⟨t.one, t.few, hn, t.top, t.tree, fun n hm => by
    obtain ⟨h0, h1, h2, h3⟩ := h n hm
    obtain ⟨m, hm⟩ : ∃ m : Nat, n.l = m := ⟨n.l.toNat, by omega⟩
    rw [hm] at h2
    refine ⟨h0, h1, ?_, h3⟩
    rw [hm]
    exact (lvN_leaf t.tree t.level m (by omega)).1 h2, t.level⟩

theorem TopOk.leaf {ps : List Int} {ns : List Nd} (t : TopOk ps ns) (n : Nd) (hm : n ∈ ns) : lvN ps n.l = 0 := by
  obtain ⟨h0, h1, h2, _⟩ := t.node n hm
  obtain ⟨m, hm⟩ : ∃ m : Nat, n.l = m := ⟨n.l.toNat, by omega⟩
  rw [hm] at h2 ⊢
  exact (lvN_leaf t.tree t.level m (by omega)).2 h2




/-- What 'Level' answers. -/
noncomputable def levelR (ps : List Int) (ns : List Nd) (s : Int) : Int := open Classical in if SwOk ps ns s then lvN ps s else -1


end Go.Proofs.Ytgkbmppgconjgaa
