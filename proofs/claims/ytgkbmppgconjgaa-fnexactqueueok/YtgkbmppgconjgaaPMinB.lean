/- ProfMin: the specification. -/
import Derived.Test.YtgkbmppgconjgaaPMin
namespace Go.Proofs.Ytgkbmppgconjgaa
open Go.ChangeShapes Go.WideShapes Go.ChangeAt Go.RowKit

theorem minK_no {ns : List Nd} {f t : Int} (h : ¬ POk ns) : minK ns f t = false ∧ minR ns f t = nd0 := by
  have e : minK ns f t = false := by simp [minK, h]
  exact ⟨e, by rw [minR, e]; rfl⟩
theorem minK_span {ns : List Nd} {f t : Int} (h : spanB f t = false) : minK ns f t = false ∧ minR ns f t = nd0 := by
  have e : minK ns f t = false := by simp [minK, h]
  exact ⟨e, by rw [minR, e]; rfl⟩
theorem minK_yes {ns : List Nd} {f t : Int} (h : POk ns) (h2 : spanB f t = true) : minK ns f t = true ∧ minR ns f t = minTo ns f t ns.length := by
  have e : minK ns f t = true := by simp [minK, h, h2]
  exact ⟨e, by rw [minR, e]; rfl⟩

end Go.Proofs.Ytgkbmppgconjgaa
