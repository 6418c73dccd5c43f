/- Small laws on worlds in which only new memory has been made. -/
import Derived.Test.YtgkbmppgconjgaaRows
import Derived.Handy
import Derived.Deep.RegionHeld3
namespace Go.Proofs.Ytgkbmppgconjgaa
open Go.ChangeShapes Go.WideShapes Go.ChangeAt Go.RowKit

/-- Behind what only makes memory every old cell reads as it did. -/
theorem bcell {W w1 : World} (hb : Below W.heap.size W w1) : (∀ b o, b < W.heap.size → w1.cell? ⟨b, o, none⟩ = W.cell? ⟨b, o, none⟩) ∧ (∀ b o, b < W.heap.size → w1.frozen? ⟨b, o, none⟩ = W.frozen? ⟨b, o, none⟩) :=
  ⟨fun b o h => hb.cell (p := ⟨b, o, none⟩) h, fun b o h => hb.frozen (p := ⟨b, o, none⟩) h⟩

/-- One behind the other. -/
theorem below_then {w W w' : World} (h : Below w.heap.size w W) (hb : Below W.heap.size W w') : Below w.heap.size w w' := h.trans (hb.mono h.size)

/-- Three cells of an old block read as they did. -/
theorem kept3 {W w' : World} (hb : Below W.heap.size W w') (b : Nat) (x y z : Value) (hlt : b < W.heap.size) (h : W.cell? ⟨b, 0, none⟩ = some x ∧ W.cell? ⟨b, 1, none⟩ = some y ∧ W.cell? ⟨b, 2, none⟩ = some z) :
    w'.cell? ⟨b, 0, none⟩ = some x ∧ w'.cell? ⟨b, 1, none⟩ = some y ∧ w'.cell? ⟨b, 2, none⟩ = some z :=
  ⟨(hb.cell (p := ⟨b, 0, none⟩) hlt).trans h.1, (hb.cell (p := ⟨b, 1, none⟩) hlt).trans h.2.1, (hb.cell (p := ⟨b, 2, none⟩) hlt).trans h.2.2⟩

/-- As 'below_then', the later step first. -/
theorem behind {w W w' : World} (hb : Below W.heap.size W w') (h : Below w.heap.size w W) : Below w.heap.size w w' := below_then h hb

/-- Behind what only makes memory: old cells, old marks, old numbers of blocks. -/
theorem bfacts {W w1 : World} (hb : Below W.heap.size W w1) : (∀ b o, b < W.heap.size → w1.cell? ⟨b, o, none⟩ = W.cell? ⟨b, o, none⟩) ∧ (∀ b o, b < W.heap.size → w1.frozen? ⟨b, o, none⟩ = W.frozen? ⟨b, o, none⟩) ∧ (∀ b, b < W.heap.size → b < w1.heap.size) :=
  ⟨fun b o h => hb.cell (p := ⟨b, o, none⟩) h, fun b o h => hb.frozen (p := ⟨b, o, none⟩) h, fun _ h => Nat.lt_of_lt_of_le h hb.size⟩

/-- A block more. -/
theorem behind_alloc {w W : World} (h : Below w.heap.size w W) (o : Obj) : Below w.heap.size w (W.alloc o) := h.alloc h.size o

/-- Six cells of two old blocks. -/
theorem held_gen {V w' : World} {b1 b2 : Nat} {a b c x y z : Value} (s1 : b1 < V.heap.size) (s2 : b2 < V.heap.size)
    (f1 : V.cell? ⟨b1, 0, none⟩ = some a ∧ V.cell? ⟨b1, 1, none⟩ = some b ∧ V.cell? ⟨b1, 2, none⟩ = some c) (f2 : V.cell? ⟨b2, 0, none⟩ = some x ∧ V.cell? ⟨b2, 1, none⟩ = some y ∧ V.cell? ⟨b2, 2, none⟩ = some z)
    (h : Below V.heap.size V w') :
    Below V.heap.size V w' ∧ V.heap.size ≤ w'.heap.size ∧ w'.cell? ⟨b1, 0, none⟩ = some a ∧ w'.cell? ⟨b1, 1, none⟩ = some b ∧ w'.cell? ⟨b1, 2, none⟩ = some c ∧ w'.cell? ⟨b2, 0, none⟩ = some x ∧ w'.cell? ⟨b2, 1, none⟩ = some y ∧ w'.cell? ⟨b2, 2, none⟩ = some z := by
  obtain ⟨c0, c1, c2⟩ := kept3 h b1 a b c s1 f1
  obtain ⟨c3, c4, c5⟩ := kept3 h b2 x y z s2 f2
  exact ⟨h, h.size, c0, c1, c2, c3, c4, c5⟩
end Go.Proofs.Ytgkbmppgconjgaa
