/- Rooms: bools in a row, profiles in a row: copied, held against each other, counted. -/
import Derived.Test.YtbnbikmnembciaaPtA
namespace Go.Proofs.Ytbnbikmnembciaa
open Go.ChangeShapes Go.WideShapes Go.ChangeAt Go.RowKit

/-- Bools as they lie. -/
def bools (xs : List Bool) : List Value := xs.map fun x => .bool x
theorem bools_len (xs : List Bool) : (bools xs).length = xs.length := by simp [bools]
theorem bools_at (xs : List Bool) (i : Nat) (h : i < xs.length) : (bools xs)[i]? = some (.bool xs[i]) := by simp [bools, h]

theorem infoBool : (Try.prog.info? 4).map (fun i => (i.zero, i.size, i.bytes)) = some (some (.bool false), 1, 1) := by kernel_rfl
/-- 'make([]bool, n)'. -/
theorem make_bools (n : Nat) (hn : n ≤ 1048576) : ∃ Z : List Value, Z.length = n ∧ ∀ w : World, (Instr.makeSlice 26 (.int .i64 (n : Int)) (.int .i64 (n : Int))).run Try.prog w = .ok (.slice (some ⟨w.heap.size, 0, none⟩) n n) (w.alloc (.cells Z.toArray 4)) := by
  obtain ⟨i0, hi, hz0, hz1, hz2⟩ := info_parts infoBool
  refine ⟨(madeCells (Value.bool false).cells (n * i0.size)).toList, ?_, fun w => ?_⟩
  · rw [hz1]
    simp [madeCells, Value.cells]
  · have h := run_make (P := Try.prog) (w := w) 26 4 i0 (.bool false) Try.underlying26 hi hz0 .i64 .i64 (n : Int) (n : Int) (by omega) (Int.le_refl _) (by rw [hz2]; omega) (by omega)
    simpa using h

/-- Part of a row lies there already. -/
def PartV (ys : List Value) (xs : List Value) (j : Nat) : Prop := ys.length = xs.length ∧ ∀ i, i < j → ys[i]? = xs[i]?
theorem PartV.set {ys xs : List Value} {j : Nat} {v : Value} (h : PartV ys xs j) (hv : xs[j]? = some v) : PartV (ys.set j v) xs (j + 1) := by
  have hj := (List.getElem?_eq_some_iff.1 hv).1
  refine ⟨by rw [List.length_set]; exact h.1, fun i hij => ?_⟩
  by_cases e : i = j
  · subst e
    rw [List.getElem?_set_self (by rw [h.1]; exact hj), hv]
  · rw [List.getElem?_set_ne (fun e' => e e'.symm)]
    exact h.2 i (by omega)
theorem PartV.all {ys xs : List Value} {j : Nat} (h : PartV ys xs j) (hj : xs.length ≤ j) : ys = xs := by
  apply List.ext_getElem?
  intro i
  by_cases hi : i < xs.length
  · exact h.2 i (by omega)
  · rw [List.getElem?_eq_none (by rw [h.1]; omega), List.getElem?_eq_none (by omega)]

set_option maxHeartbeats 1000000 in
theorem toBoolS_c (a : Option Addr) (cap : Nat) (xs : List Bool) (hl : xs.length ≤ 1048576) (w : World) (h : Sq w a (bools xs)) :
    Calls Try.prog 22 #[.slice a xs.length cap] w fun e w' =>
      ∃ g, e = .returned (.slice (some ⟨g, 0, none⟩) xs.length xs.length) ∧ w.heap.size ≤ g ∧ Row w' g (bools xs) ∧ Below w.heap.size w w' := by
  have H : Hid (Sq w a (bools xs)) := h
  clear h
  obtain ⟨Z, hZ, hmk⟩ := make_bools xs.length hl
  go_enter Try.func22, Try.ntmps22
  go_wp2_with fail
  go_loopw [4] (fun i wr => ∃ (j : Nat) (ys : List Value), j ≤ xs.length ∧ i = .int .i64 j ∧ PartV ys (bools xs) j ∧ Row wr w.heap.size ys ∧ Below w.heap.size w wr) (fun i _ => xs.length - (intOf i).toNat)
  case atStart => exact ⟨0, Z, Nat.zero_le _, rfl, ⟨by rw [hZ, bools_len], fun i h => by omega⟩, row_fresh w Z 4, by go_grown⟩
  case round =>
    obtain ⟨j, ys, hj, rfl, hp, hr, hb⟩ := hrel
    have HP : Hid (PartV ys (bools xs) j) := hp
    have HR : Hid (Row wr w.heap.size ys) := hr
    have HB : Hid (Below w.heap.size w wr) := hb
    clear hp hr hb hmk hZ
    by_cases hlt : j < xs.length
    · have hi0 : (0 : Int) ≤ (j : Int) := by omega
      have hi1 : (j : Int) < (xs.length : Int) := by omega
      obtain ⟨p, rfl, hp, hc⟩ := (H.out.below HB.out).cell j _ (bools_at xs j hlt)
      have hy : j < ys.length := by rw [HP.out.1, bools_len]; exact hlt
      have hu : wr.cell? ⟨w.heap.size, j, none⟩ = some ys[j] := HR.out.cell j _ (List.getElem?_eq_getElem hy)
      have hf : wr.frozen? ⟨w.heap.size, j, none⟩ = false := HR.out.free j
      have HS : Hid (Row (wr.setCell ⟨w.heap.size, j, none⟩ (.bool xs[j])) w.heap.size (ys.set j (.bool xs[j]))) := HR.out.set j hy _
      have HD : Hid (Below w.heap.size w (wr.setCell ⟨w.heap.size, j, none⟩ (.bool xs[j]))) := HB.out.setCell (Nat.le_refl _) _
      generalize hyj : ys[j] = u at hu
      go_wp2_with fail
      go_roundw
      case rel => exact ⟨j + 1, _, by omega, by go_num, HP.out.set (bools_at xs j hlt), HS.out, HD.out⟩
      case measure => simp [intOf]; omega
    · have HE : Hid (ys = bools xs) := HP.out.all (by rw [bools_len]; omega)
      go_wp2_with fail
      go_ret
      exact ⟨_, rfl, Nat.le_refl _, by rw [← HE.out]; exact HR.out, HB.out⟩

set_option maxHeartbeats 1000000 in
theorem szBoolS_c (a : Option Addr) (n cap : Nat) (hn : n ≤ maxLen) (left : Int) (h0 : 0 ≤ left) (h1 : left ≤ 1048576) (w : World) :
    Calls Try.prog 15 #[.slice a n cap, .int .i64 left] w fun e w' => e = .returned (.int .i64 (szP n left)) ∧ w' = w := by
  have hm : (maxLen : Nat) ≤ 9223372036854775807 := by decide
  by_cases h : left - n < 0
  · have HN : Hid (szP n left = -1) := by show _ = _; rw [szP, if_pos h]
    have h' : left < (n : Int) := by omega
    go_enter Try.func15, Try.ntmps15
    go_wp2_with fail
    go_ret
    exact ⟨by rw [HN.out]; rfl, rfl⟩
  · have HN : Hid (szP n left = left - n) := by show _ = _; rw [szP, if_neg h]
    go_enter Try.func15, Try.ntmps15
    go_wp2_with fail
    go_ret
    exact ⟨by rw [HN.out]; rfl, rfl⟩

set_option maxHeartbeats 1000000 in
theorem eqBoolS_c (a b : Option Addr) (c d : Nat) (xs : List Bool) (hl : xs.length ≤ 1048576) (w : World) (h : Sq w a (bools xs)) (h' : Sq w b (bools xs)) :
    Calls Try.prog 30 #[.slice a xs.length c, .slice b xs.length d] w fun e w' => e = .returned (.bool true) ∧ Below w.heap.size w w' := by
  have H : Hid (Sq w a (bools xs)) := h
  have H' : Hid (Sq w b (bools xs)) := h'
  clear h h'
  go_enter Try.func30, Try.ntmps30
  go_wp2_with fail
  go_loopw [5] (fun i wr => ∃ j : Nat, j ≤ xs.length ∧ i = .int .i64 j ∧ Below w.heap.size w wr) (fun i _ => xs.length - (intOf i).toNat)
  case atStart => exact ⟨0, Nat.zero_le _, rfl, Below.refl _ _⟩
  case round =>
    obtain ⟨j, hj, rfl, hb⟩ := hrel
    have HB : Hid (Below w.heap.size w wr) := hb
    clear hb
    by_cases hlt : j < xs.length
    · have hi0 : (0 : Int) ≤ (j : Int) := by omega
      have hi1 : (j : Int) < (xs.length : Int) := by omega
      obtain ⟨p, rfl, _, hc⟩ := (H.out.below HB.out).cell j _ (bools_at xs j hlt)
      obtain ⟨q, rfl, _, hc'⟩ := (H'.out.below HB.out).cell j _ (bools_at xs j hlt)
      generalize xs[j] = x at hc hc'
      go_wp2_with fail
      go_quiet (fail)
      go_wp2
      exact ⟨⟨j + 1, by omega, by go_num, below_then HB.out ⟨rfl, rfl, rfl, Nat.le_refl _, fun _ _ => rfl⟩⟩, by simp [intOf]; omega⟩
    · go_wp2_with fail
      go_ret
      exact ⟨rfl, HB.out⟩

/-- Profiles in a row: slices over their points, with room. -/
structure PVs (w : World) (a : Option Addr) (pss : List (List Nd)) : Prop where
  here : ∀ (i : Nat) ns, pss[i]? = some ns → ∃ p q c, a = some p ∧ p.block < w.heap.size ∧ w.cell? (p.add i) = some (.slice q ns.length c) ∧ Sq w q (flat ns)
theorem PVs.below {w w' : World} {a : Option Addr} {pss : List (List Nd)} (h : PVs w a pss) (hb : Below w.heap.size w w') : PVs w' a pss :=
  ⟨fun i ns hi => by
    obtain ⟨p, q, c, ha, hp, hc, hs⟩ := h.here i ns hi
    exact ⟨p, q, c, ha, Nat.lt_of_lt_of_le hp hb.size, (hb.cell (p := p.add i) (by rw [block_add]; exact hp)).trans hc, hs.below hb⟩⟩

/-- Profiles in a row of the call's own: the row in g, the points in blocks behind it that rise. -/
structure OPs (w : World) (g : Nat) (pss : List (List Nd)) (hs : List Nat) : Prop where
  len : hs.length = pss.length
  top : Row w g (List.zipWith (fun h (ns : List Nd) => .slice (some ⟨h, 0, none⟩) ns.length ns.length) hs pss)
  each : ∀ (i h : Nat) ns, hs[i]? = some h → pss[i]? = some ns → Row w h (flat ns)
  rise : List.Pairwise (· < ·) (g :: hs)
theorem OPs.below {w w' : World} {g : Nat} {pss : List (List Nd)} {hs : List Nat} (h : OPs w g pss hs) (hb : Below w.heap.size w w') : OPs w' g pss hs := ⟨h.len, h.top.below hb, fun i x ns h1 h2 => (h.each i x ns h1 h2).below hb, h.rise⟩
theorem OPs.pvs {w : World} {g : Nat} {pss : List (List Nd)} {hs : List Nat} (h : OPs w g pss hs) : PVs w (some ⟨g, 0, none⟩) pss :=
  ⟨fun i ns hi => by
    have hil := (List.getElem?_eq_some_iff.1 hi).1
    have hih : i < hs.length := by rw [h.len]; exact hil
    have hz : (List.zipWith (fun h (ns : List Nd) => Value.slice (some ⟨h, 0, none⟩) ns.length ns.length) hs pss)[i]? = some (.slice (some ⟨hs[i], 0, none⟩) ns.length ns.length) := by
      rw [List.getElem?_zipWith, List.getElem?_eq_getElem hih, hi]
    have hsq := Sq.of_row h.top
    obtain ⟨p, hp, hpl, hc⟩ := hsq.cell i _ hz
    exact ⟨p, _, _, hp, hpl, hc, Sq.of_row (h.each i _ ns (List.getElem?_eq_getElem hih) hi)⟩⟩
end Go.Proofs.Ytbnbikmnembciaa
