/- A region that draws its order, whose operations read what was there and whose callees only make memory: one walk. -/
import Derived.Test.YtgkbmppgconjgaaTopG
import Derived.BigQuiet
namespace Go.Proofs.Ytgkbmppgconjgaa
open Go.ChangeShapes Go.WideShapes Go.ChangeAt Go.RowKit

/-- A world in which, since U, only memory has been made. -/
structure Beh (U : World) where
  w : World
  low : Below U.heap.size U w

theorem beh_some (U : World) : Nonempty (Beh U) := ⟨⟨U, Below.refl _ _⟩⟩

theorem low_drew (U : World) : Below U.heap.size U U.drew := ⟨rfl, rfl, rfl, Nat.le_refl _, fun _ _ => rfl⟩

theorem wp_region_beh {P : Program} {U : World} {id : Nat} {Q : Exit → Act → World → Prop} {a : Act} {l : List Oper} (hm : P.follows .mixedOrders = true) (hB : Region.lexB .any l.toArray = true)
    (h : wpQuiet P l.toArray (fun w' => ∃ n : Beh U, w' = n.w) (fun a' => ∀ n : Beh U, Q .normal a' n.w) l a) : (Code.region id l.toArray true).wp P Q a U := by
  refine wp_region_quiet (C := fun w' => ∃ n : Beh U, w' = n.w) hm hB ⟨⟨_, low_drew U⟩, rfl⟩ ?_
  have e : (fun a' : Act => ∀ w', (∃ n : Beh U, w' = n.w) → Q .normal a' w') = (fun a' => ∀ n : Beh U, Q .normal a' n.w) := by
    funext a'
    apply propext
    exact ⟨fun h n => h n.w ⟨n, rfl⟩, fun h w' ⟨n, hn⟩ => by rw [hn]; exact h n⟩
  rw [e]
  simpa using h

/-- A callee that only makes memory. -/
theorem calls_beh {P : Program} {U : World} {n : Beh U} {f : FuncId} {args : Array Value} {v : Value} (h : Calls P f args n.w fun e w' => e = .returned v ∧ Below n.w.heap.size n.w w') :
    Calls P f args n.w fun e w'' => e = .returned v ∧ ∃ m : Beh U, w'' = m.w :=
  h.mono fun _ w' ⟨he, hb⟩ => ⟨he, ⟨w', below_then n.low hb⟩, rfl⟩
theorem calls_beh_same {P : Program} {U : World} {n : Beh U} {f : FuncId} {args : Array Value} {v : Value} (h : Calls P f args n.w fun e w' => e = .returned v ∧ w' = n.w) :
    Calls P f args n.w fun e w'' => e = .returned v ∧ ∃ m : Beh U, w'' = m.w :=
  h.mono fun _ _ ⟨he, hb⟩ => ⟨he, n, hb⟩

theorem Beh.row {U : World} {g : Nat} {xs : List Value} (h : Row U g xs) (i : Nat) (u : Value) (hu : xs[i]? = some u) : ∀ n : Beh U, n.w.cell? ⟨g, i, none⟩ = some u := fun n => (h.below n.low).cell i u hu
theorem Beh.cell {U : World} {p : Addr} {u : Value} (h : U.cell? p = some u) : ∀ n : Beh U, n.w.cell? p = some u := fun n => (n.low.cell (World.block_lt_of_cell? _ _ h)).trans h
theorem Beh.node {U : World} {p : Addr} {xs : List Nd} {x : Nd} {j : Nat} (h : Sq U (some p) (flat xs)) (hx : xs[j]? = some x) :
    (∀ n : Beh U, n.w.cell? (p.add (j * 4)) = some (.int .i64 x.l)) ∧ (∀ n : Beh U, n.w.cell? ⟨(p.add (j * 4)).block, (p.add (j * 4)).off + 1, none⟩ = some (.int .i64 x.a)) ∧
      (∀ n : Beh U, n.w.cell? ⟨(p.add (j * 4)).block, (p.add (j * 4)).off + 2, none⟩ = some (.int .i64 x.b)) ∧ (∀ n : Beh U, n.w.cell? ⟨(p.add (j * 4)).block, (p.add (j * 4)).off + 3, none⟩ = some (.int .i64 x.c)) :=
  ⟨fun n => ((h.below n.low).nodeAt hx).1, fun n => ((h.below n.low).nodeAt hx).2.1, fun n => ((h.below n.low).nodeAt hx).2.2.1, fun n => ((h.below n.low).nodeAt hx).2.2.2⟩
end Go.Proofs.Ytgkbmppgconjgaa
