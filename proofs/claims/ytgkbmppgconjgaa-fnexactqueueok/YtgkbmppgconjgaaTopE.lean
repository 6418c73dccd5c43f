/- The specification's walks over the tree of switches: what lies directly below, what a list has. -/
import Derived.Test.YtgkbmppgconjgaaTopD
import Derived.Test.YtgkbmppgconjgaaPartsA
namespace Go.Proofs.Ytgkbmppgconjgaa
open Go.ChangeShapes Go.WideShapes Go.ChangeAt Go.RowKit

theorem sq_of_owns {w : World} {B n : Nat} {e : TypeId} {v : Value} {xs : List Value} (h : w.ownsRow B e 1 v n xs) : ∃ a cap, v = .slice a n cap ∧ Sq w a xs := by
  by_cases hn : 0 < n
  · obtain ⟨g, cap, hv, _, hr⟩ := row_of_owns h hn
    exact ⟨_, cap, hv, Sq.of_row hr⟩
  · obtain ⟨hlen, h⟩ := h
    have hx : xs = [] := List.length_eq_zero_iff.1 (by omega)
    subst hx
    rcases h with ⟨rfl, hn0⟩ | ⟨g, cap, cur, rfl, _⟩
    · exact ⟨none, 0, by rw [hn0], ⟨fun i u hu => by simp at hu⟩⟩
    · exact ⟨_, cap, rfl, ⟨fun i u hu => by simp at hu⟩⟩


/-- The switches from 1 to k - 1 whose parent is s. -/
def kidsTo (ps : List Int) (s : Int) : Nat → List Int
  | 0 => []
  | k + 1 => if 1 ≤ k ∧ ps[k]? = some s then kidsTo ps s k ++ [(k : Int)] else kidsTo ps s k

theorem kids_len (ps : List Int) (s : Int) : ∀ k, (kidsTo ps s k).length ≤ k
  | 0 => Nat.le_refl _
  | k + 1 => by
    have := kids_len ps s k
    unfold kidsTo
    split
    · simp; omega
    · omega

end Go.Proofs.Ytgkbmppgconjgaa
