/- The pair: sum, difference, the lesser one of each. -/
import Derived.Test.YtgkbmppgconjgaaVecD
import Derived.Deep.DeepCutAuto
import Derived.Deep.Light
namespace Go.Proofs.Ytgkbmppgconjgaa
open Go.ChangeShapes Go.WideShapes Go.ChangeAt Go.RowKit

theorem vok_iff {a b c : Int} : vokB a b c = true ↔ (0 ≤ a ∧ a ≤ 1000000) ∧ (0 ≤ b ∧ b ≤ 1000000) ∧ (0 ≤ c ∧ c ≤ 1000000) := by
  simp [vokB, resB, and_assoc]
theorem vok_min {a b c x y z : Int} (h1 : vokB a b c = true) (h2 : vokB x y z = true) : vokB (min a x) (min b y) (min c z) = true := by
  rw [vok_iff] at *; omega

/-- Two boxed vectors and a third block, whatever has been made behind them. -/
theorem held_three (w : World) (t : TypeId) (a b c x y z r s u : Value) (w' : World) (h : Below (((w.alloc (.cells #[a, b, c] t)).alloc (.cells #[x, y, z] t)).alloc (.cells #[r, s, u] t)).heap.size (((w.alloc (.cells #[a, b, c] t)).alloc (.cells #[x, y, z] t)).alloc (.cells #[r, s, u] t)) w') :
    Below (((w.alloc (.cells #[a, b, c] t)).alloc (.cells #[x, y, z] t)).alloc (.cells #[r, s, u] t)).heap.size (((w.alloc (.cells #[a, b, c] t)).alloc (.cells #[x, y, z] t)).alloc (.cells #[r, s, u] t)) w' ∧ (((w.alloc (.cells #[a, b, c] t)).alloc (.cells #[x, y, z] t)).alloc (.cells #[r, s, u] t)).heap.size ≤ w'.heap.size ∧ w'.cell? ⟨w.heap.size, 0, none⟩ = some a ∧ w'.cell? ⟨w.heap.size, 1, none⟩ = some b ∧ w'.cell? ⟨w.heap.size, 2, none⟩ = some c ∧ w'.cell? ⟨w.heap.size + 1, 0, none⟩ = some x ∧ w'.cell? ⟨w.heap.size + 1, 1, none⟩ = some y ∧ w'.cell? ⟨w.heap.size + 1, 2, none⟩ = some z := by
  obtain ⟨c0, c1, c2⟩ := kept3 h w.heap.size a b c (by go_size) (by simp [go_sem])
  obtain ⟨c3, c4, c5⟩ := kept3 h (w.heap.size + 1) x y z (by go_size) (by simp [go_sem])
  exact ⟨h, h.size, c0, c1, c2, c3, c4, c5⟩

end Go.Proofs.Ytgkbmppgconjgaa
