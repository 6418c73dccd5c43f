/- Many cells of a block at once: read, written, kept. -/
import Derived.Test.YtpjfampfhofeaaaJsA
import Derived.Deep.MidRow
namespace Go.Proofs.Ytpjfampfhofeaaa
open Go.ChangeShapes Go.WideShapes Go.ChangeAt Go.RowKit

theorem Row.rng {w : World} {g : Nat} {xs : List Value} (h : Row w g xs) (o : Nat) (cs : List Value) (hc : ∀ j v, cs[j]? = some v → xs[o + j]? = some v) : w.rangeAt g o cs := fun j v hv => h.cell (o + j) v (hc j v hv)
theorem Row.all {w : World} {g : Nat} {xs : List Value} (h : Row w g xs) : w.rangeAt g 0 xs := h.rng 0 xs (fun j v hv => by rw [Nat.zero_add]; exact hv)
theorem Row.sub {w : World} {g : Nat} {xs : List Value} (h : Row w g xs) (o n : Nat) : w.rangeAt g o ((xs.drop o).take n) := h.rng o _ (fun j v hv => by
  rw [List.getElem?_take] at hv
  split at hv
  · rw [List.getElem?_drop] at hv; exact hv
  · cases hv)
theorem Row.room {w : World} {g : Nat} {xs : List Value} (h : Row w g xs) (o n : Nat) (hn : o + n ≤ xs.length) : w.there g o n := fun j hj => by
  refine ⟨?_, h.free (o + j)⟩
  rw [h.cell (o + j) _ (List.getElem?_eq_getElem (by omega))]; rfl
theorem Row.setCs {g : Nat} (vs : List Value) : ∀ {w : World} {ys : List Value} (m : Nat), Row w g ys → m + vs.length ≤ ys.length → Row (w.setCells g m vs) g (Go.Proofs.Ytpjfampfhofeaaa.putL ys m vs) := by
  induction vs with
  | nil => intro w ys m h _; exact h
  | cons v r ih =>
    intro w ys m h hl
    simp only [List.length_cons] at hl
    exact ih (m + 1) (h.set m (by omega) v) (by rw [List.length_set]; omega)
theorem below_setCs {g n : Nat} {A : World} (hg : n ≤ g) (vs : List Value) : ∀ {w : World} (m : Nat), Below n A w → Below n A (w.setCells g m vs) := by
  induction vs with
  | nil => intro w m h; exact h
  | cons v r ih => intro w m h; exact ih (m + 1) (h.setCell hg v)
theorem Row.apartCs {g k : Nat} {xs : List Value} (hne : k ≠ g) (vs : List Value) : ∀ {w : World} (m : Nat), Row w k xs → Row (w.setCells g m vs) k xs := by
  induction vs with
  | nil => intro w m h; exact h
  | cons v r ih => intro w m h; exact ih (m + 1) (h.apart g m v hne)
/-- Where a walk is to stand still. -/
structure Stay (p : Prop) : Prop where
  out : p
theorem stay_store (t : TypeId) {P : Program} {ops : Array Oper} {Q : Exit → Act → World → Prop} {rest : List Oper} {a : Act} {w : World} {d : _} {x y : _} {ty : _} {pos : _} {af : _} {gd : _}
    (h : Stay (wpList P ops Q ({ dst := d, op := .store t x y, type := ty, pos := pos, after := af, guard := gd } :: rest) a w)) : wpList P ops Q ({ dst := d, op := .store t x y, type := ty, pos := pos, after := af, guard := gd } :: rest) a w := h.out
theorem stay_load (t : TypeId) {P : Program} {ops : Array Oper} {Q : Exit → Act → World → Prop} {rest : List Oper} {a : Act} {w : World} {d : _} {x : _} {ty : _} {pos : _} {af : _} {gd : _}
    (h : Stay (wpList P ops Q ({ dst := d, op := .load t x, type := ty, pos := pos, after := af, guard := gd } :: rest) a w)) : wpList P ops Q ({ dst := d, op := .load t x, type := ty, pos := pos, after := af, guard := gd } :: rest) a w := h.out
end Go.Proofs.Ytpjfampfhofeaaa
