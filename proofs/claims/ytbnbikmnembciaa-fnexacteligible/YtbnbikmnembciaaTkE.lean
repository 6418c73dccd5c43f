/- ProfTake and ProfGive: the specification. -/
import Derived.Test.YtbnbikmnembciaaTkD
namespace Go.Proofs.Ytbnbikmnembciaa
open Go.ChangeShapes Go.WideShapes Go.ChangeAt Go.RowKit

/-- What 'ProfTake' (add false) and 'ProfGive' (add true) answer. -/
noncomputable def tkR (add : Bool) (v : Nd) (ns : List Nd) (f u : Int) : Option (List Nd) := bif minK ns f u then chgR add v ns f u else none

theorem minK_iff {ns : List Nd} {f u : Int} (h : minK ns f u = true) : POk ns ∧ spanB f u = true := by
  unfold minK at h
  rw [Bool.and_eq_true] at h
  exact ⟨by simpa using h.1, h.2⟩

theorem chg_len {add : Bool} {v : Nd} {ns : List Nd} {f u : Int} : ((chgR add v ns f u).getD []).length ≤ 200 := by
  unfold chgR
  cases h : chTo (chG add v) ns f u (tmsL ns f u) [] with
  | none => simp
  | some r =>
    simp only [Option.filter]
    split
    · rename_i hc
      simpa using hc
    · simp
theorem tk_len {add : Bool} {v : Nd} {ns : List Nd} {f u : Int} : ((tkR add v ns f u).getD []).length ≤ 200 := by
  unfold tkR
  cases minK ns f u
  · simp
  · exact chg_len

end Go.Proofs.Ytbnbikmnembciaa
