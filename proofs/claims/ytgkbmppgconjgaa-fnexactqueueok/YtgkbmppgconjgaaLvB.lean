/- The program's walk that finds all levels, from the last switch to the first. -/
import Derived.Test.YtgkbmppgconjgaaLvA
import Derived.Test.YtgkbmppgconjgaaTopE
namespace Go.Proofs.Ytgkbmppgconjgaa
open Go.ChangeShapes Go.WideShapes Go.ChangeAt Go.RowKit

/-- 'make([]int, n)': zeros. -/
theorem make_zeros (n : Nat) (hn : n ≤ 1048576) (w : World) : (Instr.makeSlice 40 (.int .i64 (n : Int)) (.int .i64 (n : Int))).run Try.prog w = .ok (.slice (some ⟨w.heap.size, 0, none⟩) n n) (w.alloc (.cells (ints (List.replicate n 0)).toArray 3)) := by
  obtain ⟨i0, hi, hz0, hz1, hz2⟩ := info_parts infoInt
  have hZ : madeCells (Value.int .i64 0).cells (n * i0.size) = (ints (List.replicate n 0)).toArray := by
    rw [hz1]
    apply Array.ext
    · simp [madeCells, ints]
    · intro i h1 h2
      simp [madeCells, ints, Value.cells, Nat.mod_one]
  have h := run_make (P := Try.prog) (w := w) 40 3 i0 (.int .i64 0) Try.underlying40 hi hz0 .i64 .i64 (n : Int) (n : Int) (by omega) (Int.le_refl _) (by rw [hz2]; omega) (by omega)
  rw [← hZ]
  simpa using h

/-- What the walk over the levels answers. -/
def LvSays (w : World) (ps : List Int) (e : Ending) (w' : World) : Prop :=
  (e = .returned (.tuple #[.slice none 0 0, .bool false]) ∧ ¬ TreeOk ps ∧ Below w.heap.size w w') ∨
  (∃ g L, e = .returned (.tuple #[.slice (some ⟨g, 0, none⟩) ps.length ps.length, .bool true]) ∧ TreeOk ps ∧ L.length = ps.length ∧ (∀ i : Nat, i < ps.length → L[i]? = some (lvN ps i)) ∧ w.heap.size ≤ g ∧ Row w' g (ints L) ∧ Below w.heap.size w w')

theorem lv_no {w w' : World} {ps : List Int} {e : Ending} (he : e = .returned (.tuple #[.slice none 0 0, .bool false])) (h : ¬ TreeOk ps) (hb : Below w.heap.size w w') : LvSays w ps e w' := .inl ⟨he, h, hb⟩

theorem Row.drewN {w : World} {g : Nat} {xs : List Value} (h : Row w g xs) (m : Nat) : Row (w.drewN m) g xs := ⟨h.cell, h.free, h.lt⟩
theorem below_drewN {w W : World} (h : Below w.heap.size w W) (m : Nat) : Below w.heap.size w (W.drewN m) := below_then h ⟨rfl, rfl, rfl, Nat.le_refl _, fun _ _ => rfl⟩

end Go.Proofs.Ytgkbmppgconjgaa
