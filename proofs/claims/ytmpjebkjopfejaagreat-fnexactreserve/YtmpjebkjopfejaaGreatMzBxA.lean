/- A profile in a box whose points lie in memory of their own, and grow. -/
import Derived.Test.YtmpjebkjopfejaaGreatMgRh
import Derived.Maps.AppendAt
namespace Go.Proofs.YtmpjebkjopfejaaGreat
open Go.ChangeShapes Go.WideShapes Go.ChangeAt Go.RowKit

theorem flat_add (xs ys : List Nd) : flat (xs ++ ys) = flat xs ++ flat ys := by simp [flat]
theorem cells_one (n : Nd) : flat [n] = [.int .i64 n.l, .int .i64 n.a, .int .i64 n.b, .int .i64 n.c] := rfl

/-- The box O holds the slice v of the points ns, which lie from B on. -/
structure Bx (w W : World) (B O : Nat) (v : Value) (ns : List Nd) : Prop where
  box : Row W O [v]
  own : W.ownsRow B 109 4 v ns.length (flat ns)
  ne : v.ownBlock ≠ some O
  low : w.heap.size ≤ B
  high : w.heap.size ≤ O
  le : B ≤ W.heap.size
  grown : Below w.heap.size w W

theorem Bx.below {w W W' : World} {B O : Nat} {v : Value} {ns : List Nd} (h : Bx w W B O v ns) (hb : Below W.heap.size W W') : Bx w W' B O v ns :=
  ⟨h.box.below hb, owns_below h.own hb, h.ne, h.low, h.high, Nat.le_trans h.le hb.size, below_then h.grown hb⟩

theorem Bx.form {w W : World} {B O : Nat} {v : Value} {ns : List Nd} (h : Bx w W B O v ns) : ∃ a c, v = .slice a ns.length c ∧ Sq W a (flat ns) := (AnsP.of_owns h.own).form

theorem Bx.nil {w W : World} {B O : Nat} (hb : Row W O [.slice none 0 0]) (h1 : w.heap.size ≤ B) (h2 : w.heap.size ≤ O) (h3 : B ≤ W.heap.size) (hg : Below w.heap.size w W) : Bx w W B O (.slice none 0 0) [] :=
  ⟨hb, ⟨rfl, .inl ⟨rfl, rfl⟩⟩, by simp [Value.ownBlock], h1, h2, h3, hg⟩

theorem Bx.add {w W W' : World} {B O : Nat} {v v1 : Value} {ns : List Nd} (h : Bx w W B O v ns) (n : Nd) (hown : W'.ownsRow B 109 4 v1 (ns.length + 1) (flat ns ++ [.int .i64 n.l, .int .i64 n.a, .int .i64 n.b, .int .i64 n.c])) (hg : W.grownBy W' v.ownBlock)
    (hat : v1.ownBlock = v.ownBlock ∨ v1.ownBlock = some W.heap.size) :
    Row W' O [v] ∧ Bx w (W'.setCell ⟨O, 0, none⟩ v1) B O v1 (ns ++ [n]) ∧ (∀ b xs, Row W b xs → b < B → b ≠ O → Row (W'.setCell ⟨O, 0, none⟩ v1) b xs) := by
  have hO := h.box.lt
  have hB := h.low
  have hH := h.high
  have hv : ∀ k, v.ownBlock = some k → B ≤ k := fun k e => (h.own.lt k e).1
  have hbox : Row W' O [v] := h.box.far hg (fun e => h.ne e.symm)
  have hne : v1.ownBlock ≠ some O := by
    rcases hat with e | e
    · rw [e]; exact h.ne
    · rw [e]; intro e2; have := Option.some.inj e2; omega
  have hs := Lib.grownBy_setCell W' O 0 v1
  refine ⟨hbox, ⟨hbox.set 0 (by simp) v1, ?_, hne, h.low, h.high, ?_, ?_⟩, fun b xs hr hb hbo => (hr.far hg (fun e => ?_)).far hs (fun e => hbo (Option.some.inj e))⟩
  · rw [List.length_append, List.length_singleton, flat_add, cells_one]
    exact hown.kept hs (.inr hne)
  · rw [World.size_setCell]; exact Nat.le_trans h.le hg.size
  · exact (h.grown.grown hg h.grown.size (fun k e => by have := hv k e; omega)).setCell (p := ⟨O, 0, none⟩) (by show w.heap.size ≤ O; omega) _
  · have := hv b e.symm; omega
end Go.Proofs.YtmpjebkjopfejaaGreat
