/- Slices of bytes: copied, held against each other, marked, found marked. -/
import Derived.Test.YtpdmhpcejmankaaDoorJoB
import Derived.Test.YtpdmhpcejmankaaDoorIntA
import Derived.Test.YtpdmhpcejmankaaDoorIntB
import Derived.Deep.QuietTactic
import Derived.BigQuiet
namespace Go.Proofs.YtpdmhpcejmankaaDoor
open Go.ChangeShapes Go.WideShapes Go.ChangeAt Go.RowKit

/-- Bytes as they lie. -/
def bys (l : List UInt8) : List Value := l.map fun b => .int .u8 (b.toNat : Int)
theorem bys_len (l : List UInt8) : (bys l).length = l.length := by simp [bys]
theorem bys_at (l : List UInt8) (i : Nat) (h : i < l.length) : (bys l)[i]? = some (.int .u8 (l[i].toNat : Int)) := by simp [bys, h]
theorem bys_get (l : List UInt8) (i : Nat) : (bys l)[i]? = (l[i]?).map fun b => .int .u8 (b.toNat : Int) := by simp [bys]

theorem ByA.of_row {w : World} {g : Nat} {l : List UInt8} (h : Row w g (bys l)) : ByA w (some ⟨g, 0, none⟩) l :=
  ⟨fun i b hi => ⟨g, 0, rfl, h.lt, by rw [Nat.zero_add]; exact h.cell i _ (by rw [bys_get, hi]; rfl)⟩⟩

theorem infoByte : (Tryd.prog.info? 5).map (fun i => (i.zero, i.size, i.bytes)) = some (some (.int .u8 0), 1, 1) := by kernel_rfl

/-- 'make([]byte, n)'. -/
theorem make_bytes (n : Nat) (hn : n ≤ 1048576) : ∃ Z : List Value, Z.length = n ∧ ∀ w : World, (Instr.makeSlice 22 (.int .i64 (n : Int)) (.int .i64 (n : Int))).run Tryd.prog w = .ok (.slice (some ⟨w.heap.size, 0, none⟩) n n) (w.alloc (.cells Z.toArray 5)) := by
  obtain ⟨i0, hi, hz0, hz1, hz2⟩ := info_parts infoByte
  refine ⟨(madeCells (Value.int .u8 0).cells (n * i0.size)).toList, ?_, fun w => ?_⟩
  · rw [hz1]
    simp [madeCells, Value.cells]
  · have h := run_make (P := Tryd.prog) (w := w) 22 5 i0 (.int .u8 0) Tryd.underlying22 hi hz0 .i64 .i64 (n : Int) (n : Int) (by omega) (Int.le_refl _) (by rw [hz2]; omega) (by omega)
    simpa using h

/-- Part of the bytes lies there already. -/
def PartB (ys : List Value) (l : List UInt8) (j : Nat) : Prop := ys.length = l.length ∧ ∀ i (h : i < l.length), i < j → ys[i]? = some (.int .u8 (l[i].toNat : Int))

theorem PartB.set {ys : List Value} {l : List UInt8} {j : Nat} (h : PartB ys l j) (hj : j < l.length) : PartB (ys.set j (.int .u8 (l[j].toNat : Int))) l (j + 1) := by
  refine ⟨by rw [List.length_set]; exact h.1, fun i hi hij => ?_⟩
  by_cases e : i = j
  · subst e
    rw [List.getElem?_set_self (by rw [h.1]; exact hi)]
  · rw [List.getElem?_set_ne (fun e' => e e'.symm)]
    exact h.2 i hi (by omega)

theorem PartB.all {ys : List Value} {l : List UInt8} {j : Nat} (h : PartB ys l j) (hj : l.length ≤ j) : ys = bys l := by
  apply List.ext_getElem?
  intro i
  by_cases hi : i < l.length
  · rw [h.2 i hi (by omega), bys_at l i hi]
  · rw [List.getElem?_eq_none (by rw [h.1]; omega), List.getElem?_eq_none (by rw [bys_len]; omega)]

set_option maxHeartbeats 1000000 in
theorem toByteS_c (a : Option Addr) (cap : Nat) (l : List UInt8) (hl : l.length ≤ 1048576) (w : World) (h : ByA w a l) :
    Calls Tryd.prog 19 #[.slice a l.length cap] w fun e w' =>
      ∃ g, e = .returned (.slice (some ⟨g, 0, none⟩) l.length l.length) ∧ w.heap.size ≤ g ∧ Row w' g (bys l) ∧ Below w.heap.size w w' := by
  have H : Hid (ByA w a l) := h
  clear h
  obtain ⟨Z, hZ, hmk⟩ := make_bytes l.length hl
  go_enter Tryd.func19, Tryd.ntmps19
  go_wp2_with fail
  go_loopw [4] (fun i wr => ∃ (j : Nat) (ys : List Value), j ≤ l.length ∧ i = .int .i64 j ∧ PartB ys l j ∧ Row wr w.heap.size ys ∧ Below w.heap.size w wr) (fun i _ => l.length - (intOf i).toNat)
  case atStart => exact ⟨0, Z, Nat.zero_le _, rfl, ⟨hZ, fun i _ h => by omega⟩, row_fresh w Z 5, by go_grown⟩
  case round =>
    obtain ⟨j, ys, hj, rfl, hp, hr, hb⟩ := hrel
    have HP : Hid (PartB ys l j) := hp
    have HR : Hid (Row wr w.heap.size ys) := hr
    have HB : Hid (Below w.heap.size w wr) := hb
    clear hp hr hb hmk hZ
    by_cases hlt : j < l.length
    · have hi0 : (0 : Int) ≤ (j : Int) := by omega
      have hi1 : (j : Int) < (l.length : Int) := by omega
      obtain ⟨q, o, rfl, _, hc⟩ := (H.out.below HB.out).cell j _ (List.getElem?_eq_getElem hlt)
      have hy : j < ys.length := by rw [HP.out.1]; exact hlt
      have hu : wr.cell? ⟨w.heap.size, j, none⟩ = some ys[j] := HR.out.cell j _ (List.getElem?_eq_getElem hy)
      have hf : wr.frozen? ⟨w.heap.size, j, none⟩ = false := HR.out.free j
      have HS : Hid (Row (wr.setCell ⟨w.heap.size, j, none⟩ (.int .u8 (l[j].toNat : Int))) w.heap.size (ys.set j (.int .u8 (l[j].toNat : Int)))) := HR.out.set j hy _
      have HD : Hid (Below w.heap.size w (wr.setCell ⟨w.heap.size, j, none⟩ (.int .u8 (l[j].toNat : Int)))) := HB.out.setCell (Nat.le_refl _) _
      generalize hyj : ys[j] = u at hu
      go_wp2_with fail
      go_roundw
      case rel => exact ⟨j + 1, _, by omega, by go_num, HP.out.set hlt, HS.out, HD.out⟩
      case measure => simp [intOf]; omega
    · have HE : Hid (ys = bys l) := HP.out.all (by omega)
      go_wp2_with fail
      go_ret
      exact ⟨_, rfl, Nat.le_refl _, by rw [← HE.out]; exact HR.out, HB.out⟩

set_option maxHeartbeats 1000000 in
/-- The same bytes. -/
theorem eqByteS_c (a b : Option Addr) (c d : Nat) (l : List UInt8) (hl : l.length ≤ 1048576) (w : World) (h : ByA w a l) (h' : ByA w b l) :
    Calls Tryd.prog 21 #[.slice a l.length c, .slice b l.length d] w fun e w' => e = .returned (.bool true) ∧ Below w.heap.size w w' := by
  have H : Hid (ByA w a l) := h
  have H' : Hid (ByA w b l) := h'
  clear h h'
  go_enter Tryd.func21, Tryd.ntmps21
  go_wp2_with fail
  go_loopw [5] (fun i wr => ∃ j : Nat, j ≤ l.length ∧ i = .int .i64 j ∧ Below w.heap.size w wr) (fun i _ => l.length - (intOf i).toNat)
  case atStart => exact ⟨0, Nat.zero_le _, rfl, Below.refl _ _⟩
  case round =>
    obtain ⟨j, hj, rfl, hb⟩ := hrel
    have HB : Hid (Below w.heap.size w wr) := hb
    clear hb
    by_cases hlt : j < l.length
    · have hi0 : (0 : Int) ≤ (j : Int) := by omega
      have hi1 : (j : Int) < (l.length : Int) := by omega
      obtain ⟨q, o, rfl, _, hc⟩ := (H.out.below HB.out).cell j _ (List.getElem?_eq_getElem hlt)
      obtain ⟨q', o', rfl, _, hc'⟩ := (H'.out.below HB.out).cell j _ (List.getElem?_eq_getElem hlt)
      generalize (l[j].toNat : Int) = x at hc hc'
      go_wp2_with fail
      go_quiet (fail)
      go_wp2
      exact ⟨⟨j + 1, by omega, by go_num, below_then HB.out ⟨rfl, rfl, rfl, Nat.le_refl _, fun _ _ => rfl⟩⟩, by simp [intOf]; omega⟩
    · go_wp2_with fail
      go_ret
      exact ⟨rfl, HB.out⟩

/-- n marks of bytes from k on. -/
def upBytes (k n : Nat) : List Value := (List.range n).map fun i => .int .u8 (((k + i) % 256 : Nat) : Int)
theorem upBytes_len (k n : Nat) : (upBytes k n).length = n := by simp [upBytes]
theorem upBytes_get (k n i : Nat) (h : i < n) : (upBytes k n)[i]? = some (.int .u8 (((k + i) % 256 : Nat) : Int)) := by simp [upBytes, h]

def MarkedB (ys : List Value) (k n j : Nat) : Prop := ys.length = n ∧ ∀ i, i < n → i < j → ys[i]? = some (.int .u8 (((k + i) % 256 : Nat) : Int))

theorem MarkedB.set {ys : List Value} {k n j : Nat} (h : MarkedB ys k n j) (hj : j < n) : MarkedB (ys.set j (.int .u8 (((k + j) % 256 : Nat) : Int))) k n (j + 1) := by
  refine ⟨by rw [List.length_set]; exact h.1, fun i hi hij => ?_⟩
  by_cases e : i = j
  · subst e
    rw [List.getElem?_set_self (by rw [h.1]; exact hi)]
  · rw [List.getElem?_set_ne (fun e' => e e'.symm)]
    exact h.2 i hi (by omega)

theorem MarkedB.all {ys : List Value} {k n j : Nat} (h : MarkedB ys k n j) (hj : n ≤ j) : ys = upBytes k n := by
  apply List.ext_getElem?
  intro i
  by_cases hi : i < n
  · rw [h.2 i hi (by omega), upBytes_get k n i hi]
  · rw [List.getElem?_eq_none (by rw [h.1]; omega), List.getElem?_eq_none (by rw [upBytes_len]; omega)]

theorem wrap_byte (x : Nat) : IntKind.u8.wrap (x : Int) = ((x % 256 : Nat) : Int) := by
  rw [IntKind.wrap_u8]
  omega

set_option maxHeartbeats 1000000 in
theorem markByteS_row (g cap k0 : Nat) (xs : List Value) (hl : xs.length ≤ 1048576) (hk : k0 ≤ 1048576) (w : World) (h : Row w g xs) :
    Calls Tryd.prog 22 #[.slice (some ⟨g, 0, none⟩) xs.length cap, .int .i64 (k0 : Int)] w fun e w' => e = .returned (.int .i64 ((k0 + xs.length : Nat) : Int)) ∧ w.grownBy w' (some g) ∧ Row w' g (upBytes k0 xs.length) := by
  have H : Hid (Row w g xs) := h
  clear h
  go_enter Tryd.func22, Tryd.ntmps22
  go_wp2_with fail
  go_loopw [1, 5] (fun k i wr => ∃ (j : Nat) (ys : List Value), j ≤ xs.length ∧ i = .int .i64 j ∧ k = .int .i64 ((k0 + j : Nat) : Int) ∧ MarkedB ys k0 xs.length j ∧ w.grownBy wr (some g) ∧ Row wr g ys) (fun _ i _ => xs.length - (intOf i).toNat)
  case atStart => exact ⟨0, xs, Nat.zero_le _, rfl, rfl, ⟨rfl, fun i _ h => by omega⟩, ⟨rfl, rfl, rfl, Nat.le_refl _, fun _ _ _ => rfl⟩, H.out⟩
  case round =>
    obtain ⟨j, ys, hj, rfl, rfl, hm, hg, hr⟩ := hrel
    have HM : Hid (MarkedB ys k0 xs.length j) := hm
    have HG : Hid (w.grownBy wr (some g)) := hg
    have HR : Hid (Row wr g ys) := hr
    clear hm hg hr
    by_cases hlt : j < xs.length
    · have hi1 : (j : Int) < (xs.length : Int) := by omega
      have hi0 : (0 : Int) ≤ (j : Int) := by omega
      have hy : j < ys.length := by rw [HM.out.1]; exact hlt
      obtain ⟨u, hu⟩ : ∃ u, wr.cell? ⟨g, j, none⟩ = some u := ⟨_, HR.out.cell j _ (List.getElem?_eq_getElem hy)⟩
      have hf : wr.frozen? ⟨g, j, none⟩ = false := HR.out.free j
      have hw := wrap_byte (k0 + j)
      have HS : Hid (Row (wr.setCell ⟨g, j, none⟩ (.int .u8 (((k0 + j) % 256 : Nat) : Int))) g (ys.set j (.int .u8 (((k0 + j) % 256 : Nat) : Int)))) := HR.out.set j hy _
      have HM1 : Hid (MarkedB (ys.set j (.int .u8 (((k0 + j) % 256 : Nat) : Int))) k0 xs.length (j + 1)) := HM.out.set hlt
      generalize (((k0 + j) % 256 : Nat) : Int) = mk at hw HS HM1
      generalize hkj : k0 + j = kj at hw
      have hkb : kj ≤ 2097152 := by omega
      have HK : Hid (k0 + j = kj) := hkj
      clear hkj
      go_wp2_with fail
      have hnum : (kj : Int) + 1 = ((k0 + (j + 1) : Nat) : Int) := by have := HK.out; omega
      exact ⟨⟨j + 1, _, by omega, by go_num, by rw [hnum], HM1.out, Lib.grownBy_setB HG.out _ _, HS.out⟩, by simp [intOf]; omega⟩
    · obtain rfl : j = xs.length := by omega
      have HE : Hid (ys = upBytes k0 xs.length) := HM.out.all (Nat.le_refl _)
      go_wp2_with fail
      go_ret
      exact ⟨rfl, HG.out, by rw [← HE.out]; exact HR.out⟩

set_option maxHeartbeats 1000000 in
theorem heldByteS_row (g cap k0 n : Nat) (hl : n ≤ 1048576) (hk : k0 ≤ 1048576) (w : World) (h : Row w g (upBytes k0 n)) :
    Calls Tryd.prog 34 #[.slice (some ⟨g, 0, none⟩) n cap, .int .i64 (k0 : Int)] w fun e w' => e = .returned (.int .i64 ((k0 + n : Nat) : Int)) ∧ Below w.heap.size w w' := by
  have H : Hid (Row w g (upBytes k0 n)) := h
  clear h
  go_enter Tryd.func34, Tryd.ntmps34
  go_wp2_with fail
  go_loopw [1, 5] (fun k i wr => ∃ j : Nat, j ≤ n ∧ i = .int .i64 j ∧ k = .int .i64 ((k0 + j : Nat) : Int) ∧ Below w.heap.size w wr) (fun _ i _ => n - (intOf i).toNat)
  case atStart => exact ⟨0, Nat.zero_le _, rfl, rfl, Below.refl _ _⟩
  case round =>
    obtain ⟨j, hj, rfl, rfl, hb⟩ := hrel
    have HB : Hid (Below w.heap.size w wr) := hb
    have HR : Hid (Row wr g (upBytes k0 n)) := H.out.below hb
    clear hb
    by_cases hlt : j < n
    · have hi1 : (j : Int) < (n : Int) := by omega
      have hi0 : (0 : Int) ≤ (j : Int) := by omega
      have hc : wr.cell? ⟨g, j, none⟩ = some (.int .u8 (((k0 + j) % 256 : Nat) : Int)) := HR.out.cell j _ (upBytes_get k0 n j hlt)
      have hw := wrap_byte (k0 + j)
      generalize (((k0 + j) % 256 : Nat) : Int) = mk at hw hc
      generalize hkj : k0 + j = kj at hw
      have hkb : kj ≤ 2097152 := by omega
      have HK : Hid (k0 + j = kj) := hkj
      clear hkj
      go_wp2_with fail
      have hnum : (kj : Int) + 1 = ((k0 + (j + 1) : Nat) : Int) := by have := HK.out; omega
      exact ⟨⟨j + 1, by omega, by go_num, by rw [hnum], HB.out⟩, by simp [intOf]; omega⟩
    · obtain rfl : j = n := by omega
      go_wp2_with fail
      go_ret
      exact ⟨rfl, HB.out⟩

set_option maxHeartbeats 1000000 in
/-- No byte: nothing is marked, whatever the address. -/
theorem markByteS_none (a : Option Addr) (cap k0 : Nat) (w : World) :
    Calls Tryd.prog 22 #[.slice a 0 cap, .int .i64 (k0 : Int)] w fun e w' => e = .returned (.int .i64 (k0 : Int)) ∧ w' = w := by
  go_enter Tryd.func22, Tryd.ntmps22
  go_wp2_with fail
  go_loopw [1, 5] (fun k i wr => i = .int .i64 0 ∧ k = .int .i64 (k0 : Int) ∧ wr = w) (fun _ _ _ => 0)
  case atStart => exact ⟨rfl, rfl, rfl⟩
  case round =>
    obtain ⟨rfl, rfl, rfl⟩ := hrel
    go_wp2_with fail
    go_ret
    exact ⟨rfl, rfl⟩

set_option maxHeartbeats 1000000 in
theorem heldByteS_none (a : Option Addr) (cap k0 : Nat) (w : World) :
    Calls Tryd.prog 34 #[.slice a 0 cap, .int .i64 (k0 : Int)] w fun e w' => e = .returned (.int .i64 (k0 : Int)) ∧ w' = w := by
  go_enter Tryd.func34, Tryd.ntmps34
  go_wp2_with fail
  go_loopw [1, 5] (fun k i wr => i = .int .i64 0 ∧ k = .int .i64 (k0 : Int) ∧ wr = w) (fun _ _ _ => 0)
  case atStart => exact ⟨rfl, rfl, rfl⟩
  case round =>
    obtain ⟨rfl, rfl, rfl⟩ := hrel
    go_wp2_with fail
    go_ret
    exact ⟨rfl, rfl⟩
end Go.Proofs.YtpdmhpcejmankaaDoor
