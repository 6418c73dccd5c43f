/- Small laws on worlds in which two blocks of three cells lie, whatever has been made behind them. -/
import Derived.Test.YtiblegdhaiajnaiVecE
namespace Go.Proofs.Ytiblegdhaiajnai
open Go.ChangeShapes Go.WideShapes Go.ChangeAt Go.RowKit

/-- Six cells of two old blocks. -/
theorem held_gen {V w' : World} {b1 b2 : Nat} {a b c x y z : Value} (s1 : b1 < V.heap.size) (s2 : b2 < V.heap.size)
    (f1 : V.cell? ⟨b1, 0, none⟩ = some a ∧ V.cell? ⟨b1, 1, none⟩ = some b ∧ V.cell? ⟨b1, 2, none⟩ = some c) (f2 : V.cell? ⟨b2, 0, none⟩ = some x ∧ V.cell? ⟨b2, 1, none⟩ = some y ∧ V.cell? ⟨b2, 2, none⟩ = some z)
    (h : Below V.heap.size V w') :
    Below V.heap.size V w' ∧ V.heap.size ≤ w'.heap.size ∧ w'.cell? ⟨b1, 0, none⟩ = some a ∧ w'.cell? ⟨b1, 1, none⟩ = some b ∧ w'.cell? ⟨b1, 2, none⟩ = some c ∧ w'.cell? ⟨b2, 0, none⟩ = some x ∧ w'.cell? ⟨b2, 1, none⟩ = some y ∧ w'.cell? ⟨b2, 2, none⟩ = some z := by
  obtain ⟨c0, c1, c2⟩ := kept3 h b1 a b c s1 f1
  obtain ⟨c3, c4, c5⟩ := kept3 h b2 x y z s2 f2
  exact ⟨h, h.size, c0, c1, c2, c3, c4, c5⟩
end Go.Proofs.Ytiblegdhaiajnai
