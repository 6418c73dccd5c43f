/- Slices of numbers: copied, held against each other, marked, found marked. -/
import Derived.Test.YtgkbmppgconjgaaPartsP
import Derived.Deep.QuietTactic
import Derived.BigQuiet
namespace Go.Proofs.Ytgkbmppgconjgaa
open Go.ChangeShapes Go.WideShapes Go.ChangeAt Go.RowKit

/-- What a slice shows from its address on: cells of blocks that lie there. -/
structure Sq (w : World) (a : Option Addr) (xs : List Value) : Prop where
  cell : ∀ i u, xs[i]? = some u → ∃ p, a = some p ∧ p.block < w.heap.size ∧ w.cell? (p.add i) = some u

theorem Sq.below {w w' : World} {a : Option Addr} {xs : List Value} (h : Sq w a xs) (hb : Below w.heap.size w w') : Sq w' a xs :=
  ⟨fun i u hu => by
    obtain ⟨p, ha, hp, hc⟩ := h.cell i u hu
    exact ⟨p, ha, Nat.lt_of_lt_of_le hp hb.size, (hb.cell (p := p.add i) (by rw [block_add]; exact hp)).trans hc⟩⟩

/-- Numbers as they lie. -/
def ints (xs : List Int) : List Value := xs.map fun x => .int .i64 x
theorem ints_get (xs : List Int) (i : Nat) : (ints xs)[i]? = (xs[i]?).map fun x => .int .i64 x := by simp [ints]
theorem ints_len (xs : List Int) : (ints xs).length = xs.length := by simp [ints]
theorem ints_at (xs : List Int) (i : Nat) (h : i < xs.length) : (ints xs)[i]? = some (.int .i64 xs[i]) := by rw [ints_get, List.getElem?_eq_getElem h]; rfl

theorem row_fresh (w : World) (xs : List Value) (t : TypeId) : Row (w.alloc (.cells xs.toArray t)) w.heap.size xs := by
  refine ⟨fun i u hu => ?_, fun i => ?_, by go_size⟩
  · rw [World.cell?_alloc_at _ _ _ _ rfl]
    simpa using hu
  · exact World.frozen?_alloc_at _ _ _ _ rfl

theorem infoInt : (Try.prog.info? 3).map (fun i => (i.zero, i.size, i.bytes)) = some (some (.int .i64 0), 1, 8) := by kernel_rfl

/-- 'make([]int, n)'. -/
theorem make_ints (n : Nat) (hn : n ≤ 1048576) : ∃ Z : List Value, Z.length = n ∧ ∀ w : World, (Instr.makeSlice 40 (.int .i64 (n : Int)) (.int .i64 (n : Int))).run Try.prog w = .ok (.slice (some ⟨w.heap.size, 0, none⟩) n n) (w.alloc (.cells Z.toArray 3)) := by
  obtain ⟨i0, hi, hz0, hz1, hz2⟩ := info_parts infoInt
  refine ⟨(madeCells (Value.int .i64 0).cells (n * i0.size)).toList, ?_, fun w => ?_⟩
  · rw [hz1]
    simp [madeCells, Value.cells]
  · have h := run_make (P := Try.prog) (w := w) 40 3 i0 (.int .i64 0) Try.underlying40 hi hz0 .i64 .i64 (n : Int) (n : Int) (by omega) (Int.le_refl _) (by rw [hz2]; omega) (by omega)
    simpa using h

/-- Part of the numbers lies there already. -/
def Part (ys : List Value) (xs : List Int) (j : Nat) : Prop := ys.length = xs.length ∧ ∀ i (h : i < xs.length), i < j → ys[i]? = some (.int .i64 xs[i])

theorem Part.set {ys : List Value} {xs : List Int} {j : Nat} (h : Part ys xs j) (hj : j < xs.length) : Part (ys.set j (.int .i64 xs[j])) xs (j + 1) := by
  refine ⟨by rw [List.length_set]; exact h.1, fun i hi hij => ?_⟩
  by_cases e : i = j
  · subst e
    rw [List.getElem?_set_self (by rw [h.1]; exact hi)]
  · rw [List.getElem?_set_ne (fun e' => e e'.symm)]
    exact h.2 i hi (by omega)

theorem Part.all {ys : List Value} {xs : List Int} {j : Nat} (h : Part ys xs j) (hj : xs.length ≤ j) : ys = ints xs := by
  apply List.ext_getElem?
  intro i
  by_cases hi : i < xs.length
  · rw [h.2 i hi (by omega), ints_at xs i hi]
  · rw [List.getElem?_eq_none (by rw [h.1]; omega), List.getElem?_eq_none (by rw [ints_len]; omega)]


end Go.Proofs.Ytgkbmppgconjgaa
