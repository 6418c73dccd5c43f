/- VecFits, the pair's sum, difference and lesser one: the program's. -/
import Derived.Test.YtgkbmppgconjgaaVecC
namespace Go.Proofs.Ytgkbmppgconjgaa
open Go.ChangeShapes Go.WideShapes Go.ChangeAt Go.RowKit

/-- The second vector has room for the first. -/
def fitB (a b c x y z : Int) : Bool := vokB a b c && vokB x y z && nabB a b c x y z

/-- Two boxed vectors, whatever has been made behind them. -/
theorem held_two (w : World) (t : TypeId) (a b c x y z : Value) (w' : World) (h : Below ((w.alloc (.cells #[a, b, c] t)).alloc (.cells #[x, y, z] t)).heap.size ((w.alloc (.cells #[a, b, c] t)).alloc (.cells #[x, y, z] t)) w') :
    Below ((w.alloc (.cells #[a, b, c] t)).alloc (.cells #[x, y, z] t)).heap.size ((w.alloc (.cells #[a, b, c] t)).alloc (.cells #[x, y, z] t)) w' ∧ w'.cell? ⟨w.heap.size, 0, none⟩ = some a ∧ w'.cell? ⟨w.heap.size, 1, none⟩ = some b ∧ w'.cell? ⟨w.heap.size, 2, none⟩ = some c ∧ w'.cell? ⟨w.heap.size + 1, 0, none⟩ = some x ∧ w'.cell? ⟨w.heap.size + 1, 1, none⟩ = some y ∧ w'.cell? ⟨w.heap.size + 1, 2, none⟩ = some z := by
  obtain ⟨c0, c1, c2⟩ := kept3 h w.heap.size a b c (by go_size) (by simp)
  obtain ⟨c3, c4, c5⟩ := kept3 h (w.heap.size + 1) x y z (by go_size) (by simp)
  exact ⟨h, c0, c1, c2, c3, c4, c5⟩

end Go.Proofs.Ytgkbmppgconjgaa
