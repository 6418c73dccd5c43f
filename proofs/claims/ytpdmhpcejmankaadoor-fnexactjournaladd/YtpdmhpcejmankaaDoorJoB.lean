/- The reader of records: its smallest steps. -/
import Derived.Test.YtpdmhpcejmankaaDoorJoA
import Derived.Test.YtpdmhpcejmankaaDoorPartsP
import Derived.Test.YtpdmhpcejmankaaDoorNumB
import Derived.Lib.ConvBytes
import Derived.Lib.SlBytesConst
import Derived.WalkLawsBesides
import Derived.WalkSmall
namespace Go.Proofs.YtpdmhpcejmankaaDoor
open Go.ChangeShapes Go.WideShapes Go.ChangeAt Go.RowKit

/-- A call that gave up by a panic of its own. -/
def Gave (e : Ending) : Prop := ∃ v, e = .panicked [{ v := v, recovered := false }]

theorem giveUp_yes (w : World) : Calls Tryd.prog 76 #[.bool true] w fun e w' => e = .returned (.tuple #[]) ∧ w' = w := by
  go_enter Tryd.func76, Tryd.ntmps76
  go_wp2
  go_end0
  exact ⟨rfl, rfl⟩

theorem giveUp_no (w : World) : Calls Tryd.prog 76 #[.bool false] w fun e w' => Gave e ∧ w' = w := by
  go_enter Tryd.func76, Tryd.ntmps76
  go_wp2
  exact ⟨rfl, ⟨_, rfl⟩, rfl⟩

/-- The library's bound on what it searches by a table holds some number. -/
def MaxB (w : World) : Prop := ∃ m, w.cell? ⟨0, 0, none⟩ = some (.int .i64 m)

theorem MaxB.on {w w' : World} (h : MaxB w) (hb : Below w.heap.size w w') : MaxB w' := by
  obtain ⟨m, hm⟩ := h
  exact ⟨m, (hb.cell (World.block_lt_of_cell? w _ hm)).trans hm⟩

/-- Bytes as numbers. -/
def numb (l : List UInt8) : List Int := l.map fun b => (b.toNat : Int)
theorem numb_len (l : List UInt8) : (numb l).length = l.length := by simp [numb]
theorem numb_bytes (l : List UInt8) : Lib.bytesOf (numb l) = l := by
  simp only [Lib.bytesOf, numb, List.map_map]
  conv => rhs; rw [← List.map_id l]
  apply List.map_congr_left
  intro b _
  simp
theorem numb_range (l : List UInt8) : ∀ x ∈ numb l, 0 ≤ x ∧ x < 256 := by
  intro x hx
  obtain ⟨b, _, rfl⟩ := List.mem_map.1 hx
  have := b.toNat_lt
  exact ⟨by omega, by omega⟩
theorem numb_get (l : List UInt8) (i : Nat) (h : i < l.length) : (numb l).getD i 0 = (l[i].toNat : Int) := by simp [numb, List.getD, h]
theorem numb_drop (l : List UInt8) (k : Nat) : (numb l).drop k = numb (l.drop k) := by simp [numb]
theorem numb_take (l : List UInt8) (k : Nat) : (numb l).take k = numb (l.take k) := by simp [numb]

/-- Bytes that lie from an address on. -/
structure ByA (w : World) (p : Option Addr) (l : List UInt8) : Prop where
  cell : ∀ i b, l[i]? = some b → ∃ q o, p = some ⟨q, o, none⟩ ∧ q < w.heap.size ∧ w.cell? ⟨q, o + i, none⟩ = some (.int .u8 (b.toNat : Int))

theorem ByA.below {w w' : World} {p : Option Addr} {l : List UInt8} (h : ByA w p l) (hb : Below w.heap.size w w') : ByA w' p l :=
  ⟨fun i b hi => by
    obtain ⟨q, o, e, hq, hc⟩ := h.cell i b hi
    exact ⟨q, o, e, Nat.lt_of_lt_of_le hq hb.size, (hb.cell (p := ⟨q, o + i, none⟩) hq).trans hc⟩⟩

theorem ByA.far {w : World} {p : Option Addr} {l : List UInt8} (h : ByA w p l) (R : Nat) (x : Value) (hne : ∀ q o, p = some ⟨q, o, none⟩ → q ≠ R) : ByA (w.setCell ⟨R, 0, none⟩ x) p l :=
  ⟨fun i b hi => by
    obtain ⟨q, o, e, hq, hc⟩ := h.cell i b hi
    refine ⟨q, o, e, by rw [World.size_setCell]; exact hq, ?_⟩
    rw [World.cell?_setCell_other _ _ _ _ (fun e1 => hne _ _ e (by have h1 := congrArg Addr.block e1; first | exact h1 | exact h1.symm))]
    exact hc⟩

theorem ByA.far' {w : World} {p : Option Addr} {l : List UInt8} (h : ByA w p l) (R i : Nat) (x : Value) (hne : ∀ a, p = some a → a.block ≠ R) : ByA (w.setCell ⟨R, i, none⟩ x) p l :=
  ⟨fun j b hi => by
    obtain ⟨q, o, e, hq, hc⟩ := h.cell j b hi
    refine ⟨q, o, e, by rw [World.size_setCell]; exact hq, ?_⟩
    rw [World.cell?_setCell_other _ _ _ _ (fun e1 => hne _ e (by have h1 := congrArg Addr.block e1; first | exact h1 | exact h1.symm))]
    exact hc⟩

theorem ByA.grown {w w' : World} {p : Option Addr} {l : List UInt8} {row : Option Nat} (h : ByA w p l) (hg : w.grownBy w' row) (hne : ∀ a, p = some a → some a.block ≠ row) : ByA w' p l :=
  ⟨fun j b hi => by
    obtain ⟨q, o, e, hq, hc⟩ := h.cell j b hi
    exact ⟨q, o, e, Nat.lt_of_lt_of_le hq hg.size, (World.cell?_of_block (a := ⟨q, o + j, none⟩) (hg.block q hq (hne _ e))).trans hc⟩⟩

theorem drewN_low (w : World) (n : Nat) : Below w.heap.size w (w.drewN n) := ⟨rfl, rfl, rfl, Nat.le_refl _, fun _ _ => rfl⟩

theorem ByA.nil (w : World) (p : Option Addr) : ByA w p [] := ⟨fun i b h => by simp at h⟩

theorem ByA.bytesIn {w : World} {p : Option Addr} {l : List UInt8} (h : ByA w p l) : Lib.BytesIn w p l.length (numb l) := fun hn => by
  obtain ⟨q, o, e, _, _⟩ := h.cell 0 l[0] (List.getElem?_eq_getElem hn)
  refine ⟨q, o, e, fun i hi => ?_⟩
  obtain ⟨q', o', e', _, hc⟩ := h.cell i l[i] (List.getElem?_eq_getElem hi)
  rw [e] at e'
  cases e'
  rw [hc, numb_get l i hi]

/-- 's[j:]' of bytes. -/
theorem ByA.from {w : World} {p : Option Addr} {l : List UInt8} (h : ByA w p l) (j c : Nat) (hc : l.length ≤ c) (hj : j ≤ l.length) : ByA w (if c = j then p else p.map (fun x => x.add j)) (l.drop j) :=
  ⟨fun i b hi => by
    rw [List.getElem?_drop] at hi
    have hlt := (List.getElem?_eq_some_iff.1 hi).1
    rw [if_neg (by omega)]
    obtain ⟨q, o, e, hq, hcl⟩ := h.cell (j + i) b hi
    subst e
    exact ⟨q, o + j, by simp [Addr.add], hq, by rw [Nat.add_assoc]; exact hcl⟩⟩

/-- 's[:j]' of bytes. -/
theorem ByA.upto {w : World} {p : Option Addr} {l : List UInt8} (h : ByA w p l) (j : Nat) : ByA w p (l.take j) :=
  ⟨fun i b hi => by
    rw [List.getElem?_take] at hi
    split at hi
    · exact h.cell i b hi
    · cases hi⟩

theorem bw_below (W : World) (e : TypeId) (s : ByteArray) : Below W.heap.size W (Lib.bytesWorld W e s) := by
  refine ⟨rfl, rfl, rfl, by rw [Lib.bytesWorld_size]; omega, fun i hi => Lib.bytesWorld_at_old W e s i hi⟩

theorem bw_bytes (W : World) (e : TypeId) (s : ByteArray) : ByA (Lib.bytesWorld W e s) (some ⟨W.heap.size, 0, none⟩) s.data.toList :=
  ⟨fun i b hi => ⟨W.heap.size, 0, rfl, by rw [Lib.bytesWorld_size]; omega, by
    have hlt := (List.getElem?_eq_some_iff.1 hi).1
    rw [Nat.zero_add, Lib.bytesWorld_cell W e s i (by simpa using hlt)]
    have : s.data.toList.getD i 0 = b := by simp [List.getD, hi]
    rw [this]⟩⟩
end Go.Proofs.YtpdmhpcejmankaaDoor
