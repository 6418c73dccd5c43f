/- Topologies held against each other, and marked. -/
import Derived.Test.YtgkbmppgconjgaaTopC
namespace Go.Proofs.Ytgkbmppgconjgaa
open Go.ChangeShapes Go.WideShapes Go.ChangeAt Go.RowKit

theorem Sq.of_row {w : World} {g : Nat} {xs : List Value} (h : Row w g xs) : Sq w (some ⟨g, 0, none⟩) xs :=
  ⟨fun i u hu => ⟨⟨g, 0, none⟩, rfl, h.lt, by
    have e : (⟨g, 0, none⟩ : Addr).add i = ⟨g, i, none⟩ := by unfold Addr.add; split <;> simp_all
    rw [e]
    exact h.cell i u hu⟩⟩


theorem Sq.nodeAt {w : World} {p : Addr} {xs : List Nd} {x : Nd} {j : Nat} (h : Sq w (some p) (flat xs)) (hx : xs[j]? = some x) :
    w.cell? (p.add (j * 4)) = some (.int .i64 x.l) ∧ w.cell? ⟨(p.add (j * 4)).block, (p.add (j * 4)).off + 1, none⟩ = some (.int .i64 x.a) ∧
      w.cell? ⟨(p.add (j * 4)).block, (p.add (j * 4)).off + 2, none⟩ = some (.int .i64 x.b) ∧ w.cell? ⟨(p.add (j * 4)).block, (p.add (j * 4)).off + 3, none⟩ = some (.int .i64 x.c) := by
  obtain ⟨hj, rfl⟩ := List.getElem?_eq_some_iff.1 hx
  obtain ⟨q, hq, h0⟩ := h.node j hj
  cases hq
  exact h0

theorem held_nodes {V w' : World} {p q : Addr} {xs ys : List Nd} {x y : Nd} {j : Nat} (h : Sq V (some p) (flat xs)) (h' : Sq V (some q) (flat ys)) (hx : xs[j]? = some x) (hy : ys[j]? = some y) (hb : Below V.heap.size V w') :
    Below V.heap.size V w' ∧ (w'.cell? (p.add (j * 4)) = some (.int .i64 x.l) ∧ w'.cell? ⟨(p.add (j * 4)).block, (p.add (j * 4)).off + 1, none⟩ = some (.int .i64 x.a) ∧
      w'.cell? ⟨(p.add (j * 4)).block, (p.add (j * 4)).off + 2, none⟩ = some (.int .i64 x.b) ∧ w'.cell? ⟨(p.add (j * 4)).block, (p.add (j * 4)).off + 3, none⟩ = some (.int .i64 x.c)) ∧
     (w'.cell? (q.add (j * 4)) = some (.int .i64 y.l) ∧ w'.cell? ⟨(q.add (j * 4)).block, (q.add (j * 4)).off + 1, none⟩ = some (.int .i64 y.a) ∧
      w'.cell? ⟨(q.add (j * 4)).block, (q.add (j * 4)).off + 2, none⟩ = some (.int .i64 y.b) ∧ w'.cell? ⟨(q.add (j * 4)).block, (q.add (j * 4)).off + 3, none⟩ = some (.int .i64 y.c)) :=
  ⟨hb, (h.below hb).nodeAt hx, (h'.below hb).nodeAt hy⟩


end Go.Proofs.Ytgkbmppgconjgaa
