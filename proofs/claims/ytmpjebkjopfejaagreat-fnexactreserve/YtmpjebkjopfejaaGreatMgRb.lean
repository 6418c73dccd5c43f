/- A region that draws its order, whose operations read what was there and whose callees only make memory: one walk. -/
import Derived.Test.YtmpjebkjopfejaaGreatMzPtA
import Derived.Test.YtmpjebkjopfejaaGreatMgRa
import Derived.Deep.DeepCutAuto
import Derived.Lib.SmallJoins
import Derived.BigQuiet
namespace Go.Proofs.YtmpjebkjopfejaaGreat
open Go.ChangeShapes Go.WideShapes Go.ChangeAt Go.RowKit

/-- Bools as they lie. -/
def bools (xs : List Bool) : List Value := xs.map fun x => .bool x
theorem bools_len (xs : List Bool) : (bools xs).length = xs.length := by simp [bools]
theorem bools_at (xs : List Bool) (i : Nat) (h : i < xs.length) : (bools xs)[i]? = some (.bool xs[i]) := by simp [bools, h]

theorem infoBool : (Tryz.prog.info? 4).map (fun i => (i.zero, i.size, i.bytes)) = some (some (.bool false), 1, 1) := by kernel_rfl
/-- 'make([]bool, n)'. -/
theorem make_bools (n : Nat) (hn : n ≤ 1048576) : ∃ Z : List Value, Z.length = n ∧ ∀ w : World, (Instr.makeSlice 26 (.int .i64 (n : Int)) (.int .i64 (n : Int))).run Tryz.prog w = .ok (.slice (some ⟨w.heap.size, 0, none⟩) n n) (w.alloc (.cells Z.toArray 4)) := by
  obtain ⟨i0, hi, hz0, hz1, hz2⟩ := info_parts infoBool
  refine ⟨(madeCells (Value.bool false).cells (n * i0.size)).toList, ?_, fun w => ?_⟩
  · rw [hz1]
    simp [madeCells, Value.cells]
  · have h := run_make (P := Tryz.prog) (w := w) 26 4 i0 (.bool false) Tryz.underlying26 hi hz0 .i64 .i64 (n : Int) (n : Int) (by omega) (Int.le_refl _) (by rw [hz2]; omega) (by omega)
    simpa using h

/-- Part of a row lies there already. -/
def PartV (ys : List Value) (xs : List Value) (j : Nat) : Prop := ys.length = xs.length ∧ ∀ i, i < j → ys[i]? = xs[i]?
theorem PartV.set {ys xs : List Value} {j : Nat} {v : Value} (h : PartV ys xs j) (hv : xs[j]? = some v) : PartV (ys.set j v) xs (j + 1) := by
  have hj := (List.getElem?_eq_some_iff.1 hv).1
  refine ⟨by rw [List.length_set]; exact h.1, fun i hij => ?_⟩
  by_cases e : i = j
  · subst e
    rw [List.getElem?_set_self (by rw [h.1]; exact hj), hv]
  · rw [List.getElem?_set_ne (fun e' => e e'.symm)]
    exact h.2 i (by omega)
theorem PartV.all {ys xs : List Value} {j : Nat} (h : PartV ys xs j) (hj : xs.length ≤ j) : ys = xs := by
  apply List.ext_getElem?
  intro i
  by_cases hi : i < xs.length
  · exact h.2 i (by omega)
  · rw [List.getElem?_eq_none (by rw [h.1]; omega), List.getElem?_eq_none (by omega)]

set_option maxHeartbeats 1000000 in
theorem toBoolS_c (a : Option Addr) (cap : Nat) (xs : List Bool) (hl : xs.length ≤ 1048576) (w : World) (h : Sq w a (bools xs)) :
    Calls Tryz.prog 27 #[.slice a xs.length cap] w fun e w' =>
      ∃ g, e = .returned (.slice (some ⟨g, 0, none⟩) xs.length xs.length) ∧ w.heap.size ≤ g ∧ Row w' g (bools xs) ∧ Below w.heap.size w w' := by
  have H : Hid (Sq w a (bools xs)) := h
  clear h
  obtain ⟨Z, hZ, hmk⟩ := make_bools xs.length hl
  go_enter Tryz.func27, Tryz.ntmps27
  go_wp2_with fail
  go_loopw [4] (fun i wr => ∃ (j : Nat) (ys : List Value), j ≤ xs.length ∧ i = .int .i64 j ∧ PartV ys (bools xs) j ∧ Row wr w.heap.size ys ∧ Below w.heap.size w wr) (fun i _ => xs.length - (intOf i).toNat)
  case atStart => exact ⟨0, Z, Nat.zero_le _, rfl, ⟨by rw [hZ, bools_len], fun i h => by omega⟩, row_fresh w Z 4, by go_grown⟩
  case round =>
    obtain ⟨j, ys, hj, rfl, hp, hr, hb⟩ := hrel
    have HP : Hid (PartV ys (bools xs) j) := hp
    have HR : Hid (Row wr w.heap.size ys) := hr
    have HB : Hid (Below w.heap.size w wr) := hb
    clear hp hr hb hmk hZ
    by_cases hlt : j < xs.length
    · have hi0 : (0 : Int) ≤ (j : Int) := by omega
      have hi1 : (j : Int) < (xs.length : Int) := by omega
      obtain ⟨p, rfl, hp, hc⟩ := (H.out.below HB.out).cell j _ (bools_at xs j hlt)
      have hy : j < ys.length := by rw [HP.out.1, bools_len]; exact hlt
      have hu : wr.cell? ⟨w.heap.size, j, none⟩ = some ys[j] := HR.out.cell j _ (List.getElem?_eq_getElem hy)
      have hf : wr.frozen? ⟨w.heap.size, j, none⟩ = false := HR.out.free j
      have HS : Hid (Row (wr.setCell ⟨w.heap.size, j, none⟩ (.bool xs[j])) w.heap.size (ys.set j (.bool xs[j]))) := HR.out.set j hy _
      have HD : Hid (Below w.heap.size w (wr.setCell ⟨w.heap.size, j, none⟩ (.bool xs[j]))) := HB.out.setCell (Nat.le_refl _) _
      generalize hyj : ys[j] = u at hu
      go_wp2_with fail
      go_roundw
      case rel => exact ⟨j + 1, _, by omega, by go_num, HP.out.set (bools_at xs j hlt), HS.out, HD.out⟩
      case measure => simp [intOf]; omega
    · have HE : Hid (ys = bools xs) := HP.out.all (by rw [bools_len]; omega)
      go_wp2_with fail
      go_ret
      exact ⟨_, rfl, Nat.le_refl _, by rw [← HE.out]; exact HR.out, HB.out⟩

set_option maxHeartbeats 1000000 in
theorem szBoolS_c (a : Option Addr) (n cap : Nat) (hn : n ≤ maxLen) (left : Int) (h0 : 0 ≤ left) (h1 : left ≤ 1048576) (w : World) :
    Calls Tryz.prog 19 #[.slice a n cap, .int .i64 left] w fun e w' => e = .returned (.int .i64 (szP n left)) ∧ w' = w := by
  have hm : (maxLen : Nat) ≤ 9223372036854775807 := by decide
  by_cases h : left - n < 0
  · have HN : Hid (szP n left = -1) := by show _ = _; rw [szP, if_pos h]
    have h' : left < (n : Int) := by omega
    go_enter Tryz.func19, Tryz.ntmps19
    go_wp2_with fail
    go_ret
    exact ⟨by rw [HN.out]; rfl, rfl⟩
  · have HN : Hid (szP n left = left - n) := by show _ = _; rw [szP, if_neg h]
    go_enter Tryz.func19, Tryz.ntmps19
    go_wp2_with fail
    go_ret
    exact ⟨by rw [HN.out]; rfl, rfl⟩

set_option maxHeartbeats 1000000 in
theorem eqBoolS_c (a b : Option Addr) (c d : Nat) (xs : List Bool) (hl : xs.length ≤ 1048576) (w : World) (h : Sq w a (bools xs)) (h' : Sq w b (bools xs)) :
    Calls Tryz.prog 34 #[.slice a xs.length c, .slice b xs.length d] w fun e w' => e = .returned (.bool true) ∧ Below w.heap.size w w' := by
  have H : Hid (Sq w a (bools xs)) := h
  have H' : Hid (Sq w b (bools xs)) := h'
  clear h h'
  go_enter Tryz.func34, Tryz.ntmps34
  go_wp2_with fail
  go_loopw [5] (fun i wr => ∃ j : Nat, j ≤ xs.length ∧ i = .int .i64 j ∧ Below w.heap.size w wr) (fun i _ => xs.length - (intOf i).toNat)
  case atStart => exact ⟨0, Nat.zero_le _, rfl, Below.refl _ _⟩
  case round =>
    obtain ⟨j, hj, rfl, hb⟩ := hrel
    have HB : Hid (Below w.heap.size w wr) := hb
    clear hb
    by_cases hlt : j < xs.length
    · have hi0 : (0 : Int) ≤ (j : Int) := by omega
      have hi1 : (j : Int) < (xs.length : Int) := by omega
      obtain ⟨p, rfl, _, hc⟩ := (H.out.below HB.out).cell j _ (bools_at xs j hlt)
      obtain ⟨q, rfl, _, hc'⟩ := (H'.out.below HB.out).cell j _ (bools_at xs j hlt)
      generalize xs[j] = x at hc hc'
      go_wp2_with fail
      go_quiet (fail)
      go_wp2
      exact ⟨⟨j + 1, by omega, by go_num, below_then HB.out ⟨rfl, rfl, rfl, Nat.le_refl _, fun _ _ => rfl⟩⟩, by simp [intOf]; omega⟩
    · go_wp2_with fail
      go_ret
      exact ⟨rfl, HB.out⟩

/-- Profiles in a row: slices over their points, with room. -/
structure PVs (w : World) (a : Option Addr) (pss : List (List Nd)) : Prop where
  here : ∀ (i : Nat) ns, pss[i]? = some ns → ∃ p q c, a = some p ∧ p.block < w.heap.size ∧ w.cell? (p.add i) = some (.slice q ns.length c) ∧ Sq w q (flat ns)
theorem PVs.below {w w' : World} {a : Option Addr} {pss : List (List Nd)} (h : PVs w a pss) (hb : Below w.heap.size w w') : PVs w' a pss :=
  ⟨fun i ns hi => by
    obtain ⟨p, q, c, ha, hp, hc, hs⟩ := h.here i ns hi
    exact ⟨p, q, c, ha, Nat.lt_of_lt_of_le hp hb.size, (hb.cell (p := p.add i) (by rw [block_add]; exact hp)).trans hc, hs.below hb⟩⟩

/-- Profiles in a row of the call's own: the row in g, the points in blocks behind it that rise. -/
structure OPs (w : World) (g : Nat) (pss : List (List Nd)) (hs : List Nat) : Prop where
  len : hs.length = pss.length
  top : Row w g (List.zipWith (fun h (ns : List Nd) => .slice (some ⟨h, 0, none⟩) ns.length ns.length) hs pss)
  each : ∀ (i h : Nat) ns, hs[i]? = some h → pss[i]? = some ns → Row w h (flat ns)
  rise : List.Pairwise (· < ·) (g :: hs)
theorem OPs.below {w w' : World} {g : Nat} {pss : List (List Nd)} {hs : List Nat} (h : OPs w g pss hs) (hb : Below w.heap.size w w') : OPs w' g pss hs := ⟨h.len, h.top.below hb, fun i x ns h1 h2 => (h.each i x ns h1 h2).below hb, h.rise⟩
theorem OPs.pvs {w : World} {g : Nat} {pss : List (List Nd)} {hs : List Nat} (h : OPs w g pss hs) : PVs w (some ⟨g, 0, none⟩) pss :=
  ⟨fun i ns hi => by
    have hil := (List.getElem?_eq_some_iff.1 hi).1
    have hih : i < hs.length := by rw [h.len]; exact hil
    have hz : (List.zipWith (fun h (ns : List Nd) => Value.slice (some ⟨h, 0, none⟩) ns.length ns.length) hs pss)[i]? = some (.slice (some ⟨hs[i], 0, none⟩) ns.length ns.length) := by
      rw [List.getElem?_zipWith, List.getElem?_eq_getElem hih, hi]
    have hsq := Sq.of_row h.top
    obtain ⟨p, hp, hpl, hc⟩ := hsq.cell i _ hz
    exact ⟨p, _, _, hp, hpl, hc, Sq.of_row (h.each i _ ns (List.getElem?_eq_getElem hih) hi)⟩⟩
end Go.Proofs.YtmpjebkjopfejaaGreat

namespace Go.Proofs.YtmpjebkjopfejaaGreat
open Go.ChangeShapes Go.WideShapes Go.ChangeAt Go.RowKit

theorem infoStr : (Tryz.prog.info? 9).map (fun i => (i.zero, i.size, i.bytes)) = some (some (.string ByteArray.empty), 1, 16) := by kernel_rfl

theorem extract_list (s : ByteArray) (f k : Nat) : s.extract f k = ⟨((s.data.toList.take k).drop f).toArray⟩ := by
  apply ByteArray.ext
  apply Array.ext'
  rw [Lib.extract_data]
  rw [List.drop_take]

/-- Out of what a slice of the call's own holds: where it lies. -/
theorem row_of_owns {w : World} {B n : Nat} {e : TypeId} {v : Value} {xs : List Value} (h : w.ownsRow B e 1 v n xs) (hn : 0 < n) : ∃ g cap, v = .slice (some ⟨g, 0, none⟩) n cap ∧ B ≤ g ∧ Row w g xs := by
  obtain ⟨hlen, h⟩ := h
  rcases h with ⟨_, h⟩ | ⟨g, cap, cur, rfl, hB, hg, hnc, _, hsz, hx⟩
  · omega
  · refine ⟨g, cap, rfl, hB, fun i u hu => ?_, fun i => ?_, ?_⟩
    · rw [← hx] at hu
      have hi : cur.toList[i]? = some u := by
        rw [List.getElem?_take] at hu
        split at hu
        · exact hu
        · cases hu
      simp only [World.cell?, hg]
      simpa using hi
    · simp [World.frozen?, hg]
    · rcases Nat.lt_or_ge g w.heap.size with h' | h'
      · exact h'
      · rw [Array.getElem?_eq_none h'] at hg; cases hg

/-- Where the loop over the bytes stands. -/
def ptInv (b : UInt8) (l : List UInt8) (k f : Nat) (acc : List (List UInt8)) : Prop := f ≤ k ∧ acc.length ≤ k ∧ pcs b (l.take k) = acc ++ [(l.take k).drop f]

theorem pt_start (b : UInt8) (l : List UInt8) : ptInv b l 0 0 [] := ⟨Nat.le_refl _, Nat.le_refl _, by simp [pcs]⟩

theorem pt_hit {b : UInt8} {l : List UInt8} {k f : Nat} {acc : List (List UInt8)} (h : ptInv b l k f acc) (hk : l[k]? = some b) : ptInv b l (k + 1) (k + 1) (acc ++ [(l.take k).drop f]) := by
  obtain ⟨h1, h2, h3⟩ := h
  have hlt : k < l.length := (List.getElem?_eq_some_iff.1 hk).1
  refine ⟨Nat.le_refl _, by simp; omega, ?_⟩
  rw [List.take_add_one, hk, Option.toList_some, pcs_hit, h3]
  have : (l.take k ++ [b]).drop (k + 1) = [] := by rw [List.drop_eq_nil_iff]; simp; omega
  rw [this]

theorem pt_miss {b c : UInt8} {l : List UInt8} {k f : Nat} {acc : List (List UInt8)} (h : ptInv b l k f acc) (hk : l[k]? = some c) (hc : c ≠ b) : ptInv b l (k + 1) f acc := by
  obtain ⟨h1, h2, h3⟩ := h
  have hlt : k < l.length := (List.getElem?_eq_some_iff.1 hk).1
  refine ⟨by omega, by omega, ?_⟩
  rw [List.take_add_one, hk, Option.toList_some, pcs_miss b c hc _ _ _ h3, List.drop_append_of_le_length (by simp; omega)]

theorem pt_end {b : UInt8} {l : List UInt8} {f : Nat} {acc : List (List UInt8)} (h : ptInv b l l.length f acc) : pcs b l = acc ++ [l.drop f] := by
  have := h.2.2
  rwa [List.take_of_length_le (Nat.le_refl _)] at this

end Go.Proofs.YtmpjebkjopfejaaGreat

namespace Go.Proofs.YtmpjebkjopfejaaGreat
open Go.ChangeShapes Go.WideShapes Go.ChangeAt Go.RowKit

theorem sq_of_owns {w : World} {B n : Nat} {e : TypeId} {v : Value} {xs : List Value} (h : w.ownsRow B e 1 v n xs) : ∃ a cap, v = .slice a n cap ∧ Sq w a xs := by
  by_cases hn : 0 < n
  · obtain ⟨g, cap, hv, _, hr⟩ := row_of_owns h hn
    exact ⟨_, cap, hv, Sq.of_row hr⟩
  · obtain ⟨hlen, h⟩ := h
    have hx : xs = [] := List.length_eq_zero_iff.1 (by omega)
    subst hx
    rcases h with ⟨rfl, hn0⟩ | ⟨g, cap, cur, rfl, _⟩
    · exact ⟨none, 0, by rw [hn0], ⟨fun i u hu => by simp at hu⟩⟩
    · exact ⟨_, cap, rfl, ⟨fun i u hu => by simp at hu⟩⟩

set_option maxHeartbeats 1000000 in
theorem l02Has_c (a : Option Addr) (cap : Nat) (xs : List Int) (n : Int) (hl : xs.length ≤ 4294967296) (w : World) (h : Sq w a (ints xs)) :
    Calls Tryz.prog 53 #[.slice a xs.length cap, .int .i64 n] w fun e w' => e = .returned (.bool (decide (n ∈ xs))) ∧ Below w.heap.size w w' := by
  have H : Hid (Sq w a (ints xs)) := h
  clear h
  go_enter Tryz.func53, Tryz.ntmps53
  go_wp2_with fail
  go_loopw [9] (fun i wr => ∃ j : Nat, j ≤ xs.length ∧ i = .int .i64 j ∧ (∀ k, k < j → xs[k]? ≠ some n) ∧ Below w.heap.size w wr) (fun i _ => xs.length - (intOf i).toNat)
  case atStart => exact ⟨0, Nat.zero_le _, rfl, fun k h => by omega, Below.refl _ _⟩
  case round =>
    obtain ⟨j, hj, rfl, he, hb⟩ := hrel
    have HE : Hid (∀ k, k < j → xs[k]? ≠ some n) := he
    have HB : Hid (Below w.heap.size w wr) := hb
    clear he hb
    by_cases hlt : j < xs.length
    · have hi0 : (0 : Int) ≤ (j : Int) := by omega
      have hi1 : (j : Int) < (xs.length : Int) := by omega
      obtain ⟨p, rfl, _, hc⟩ := (H.out.below HB.out).cell j _ (ints_at xs j hlt)
      have HX : Hid (xs[j]? = some xs[j]) := List.getElem?_eq_getElem hlt
      generalize xs[j] = x at hc HX
      by_cases hx : x = n
      · subst hx
        have HM : Hid (decide (x ∈ xs) = true) := by show _ = _; simp; exact List.mem_of_getElem? HX.out
        go_wp2_with fail
        go_ret
        exact ⟨by rw [HM.out]; rfl, HB.out⟩
      · have hi : (x == n) = false := by simpa using hx
        have HE1 : Hid (∀ k, k < j + 1 → xs[k]? ≠ some n) := fun k hk => by
          by_cases e : k = j
          · subst e; rw [HX.out]; intro e1; exact hx (Option.some.inj e1)
          · exact HE.out k (by omega)
        go_wp2_with fail
        go_roundw
        case rel => exact ⟨j + 1, by omega, by go_num, HE1.out, HB.out⟩
        case measure => simp [intOf]; omega
    · have HM : Hid (decide (n ∈ xs) = false) := by
        show _ = _
        simp
        intro hm
        obtain ⟨k, hk⟩ := List.getElem?_of_mem hm
        exact HE.out k (by have := (List.getElem?_eq_some_iff.1 hk).1; omega) hk
      go_wp2_with fail
      go_ret
      exact ⟨by rw [HM.out]; rfl, HB.out⟩

/-- The switches from 1 to k - 1 whose parent is s. -/
def kidsTo (ps : List Int) (s : Int) : Nat → List Int
  | 0 => []
  | k + 1 => if 1 ≤ k ∧ ps[k]? = some s then kidsTo ps s k ++ [(k : Int)] else kidsTo ps s k

theorem kids_len (ps : List Int) (s : Int) : ∀ k, (kidsTo ps s k).length ≤ k
  | 0 => Nat.le_refl _
  | k + 1 => by
    have := kids_len ps s k
    unfold kidsTo
    split
    · simp; omega
    · omega

set_option maxHeartbeats 1000000 in
theorem l02Kids_c (a b : Option Addr) (c m d : Nat) (ps : List Int) (s : Int) (hl : ps.length ≤ 1048576) (w : World) (h : Sq w a (ints ps)) :
    Calls Tryz.prog 101 #[.agg #[.slice a ps.length c, .slice b m d], .int .i64 s] w fun e w' =>
      ∃ a' cap, e = .returned (.slice a' (kidsTo ps s ps.length).length cap) ∧ Sq w' a' (ints (kidsTo ps s ps.length)) ∧ Below w.heap.size w w' := by
  have H : Hid (Sq w a (ints ps)) := h
  clear h
  obtain ⟨i0, hi, hz0, hz1, hz2⟩ := info_parts infoInt
  go_enter Tryz.func101, Tryz.ntmps101
  go_wp2_with fail
  generalize hV : w.alloc (.cells #[.slice a ps.length c, .slice b m d] 40) = V
  have HA : Hid (Row V w.heap.size [.slice a ps.length c, .slice b m d]) := by subst hV; exact row_fresh w [.slice a ps.length c, .slice b m d] 40
  have HV : Hid (Below w.heap.size w V) := by subst hV; exact low_alloc _ _
  have hVs : w.heap.size + 1 = V.heap.size := by subst hV; simp [go_sem]
  clear hV
  rw [hVs]
  go_loopw [5, 6] (fun o i wr => ∃ (k : Nat), 1 ≤ k ∧ k ≤ max 1 ps.length ∧ i = .int .i64 k ∧ wr.ownsRow V.heap.size 3 1 o (kidsTo ps s k).length (ints (kidsTo ps s k)) ∧ Below V.heap.size V wr) (fun _ i _ => ps.length - (intOf i).toNat)
  case atStart => exact ⟨1, Nat.le_refl _, by omega, rfl, World.ownsRow_made V #[] 0 (Nat.le_refl _) (by decide) rfl, low_alloc _ _⟩
  case round =>
    obtain ⟨k, hk1, hk2, rfl, hown, hb⟩ := hrel
    have HO : Hid (wr.ownsRow V.heap.size 3 1 u5 (kidsTo ps s k).length (ints (kidsTo ps s k))) := hown
    have HB : Hid (Below V.heap.size V wr) := hb
    have hwr : V.heap.size ≤ wr.heap.size := hb.size
    have t0 := (HA.out.below hb).cell 0 _ rfl
    have hkl := kids_len ps s k
    clear hown hb
    by_cases hlt : k < ps.length
    · have hi0 : (0 : Int) ≤ (k : Int) := by omega
      have hi1 : (k : Int) < (ps.length : Int) := by omega
      obtain ⟨p, rfl, _, hc⟩ := ((H.out.below HV.out).below HB.out).cell k _ (ints_at ps k hlt)
      have HX : Hid (ps[k]? = some ps[k]) := List.getElem?_eq_getElem hlt
      generalize ps[k] = x at hc HX
      by_cases hx : x = s
      · subst hx
        have HK : Hid (kidsTo ps x (k + 1) = kidsTo ps x k ++ [(k : Int)]) := by show _ = _; rw [kidsTo, if_pos ⟨hk1, HX.out⟩]
        go_wp2_with (at_builtin; refine wpList_append_own _ rfl _ _ 22 rfl V.heap.size 3 i0 (.int .i64 0) 1 8 Tryz.underlying22 hi hz0 hz1 hz2 rfl (by decide) _ _ _ rfl (HO.out.alloc _) ⟨wr.heap.size, 0, none⟩ 1 1 [.int .i64 k] rfl rfl ?c1 ?c2 ?c3 ?c4 ?c5 ?_)
        case c1 =>
          intro j u hj
          match j, hj with
          | 0, hj => simp at hj; subst hj; simp [Addr.add]
        case c2 => intro u hu; simp at hu; subst hu; rfl
        case c3 => unfold maxLen; omega
        case c4 => omega
        case c5 => simp; omega
        · intro v1 w1 hown1 hgrow1 _
          have HB1 : Hid (Below V.heap.size V w1) := (HB.out.alloc hwr _).grown hgrow1 (by simp; omega) (fun q hq => (HO.out.lt q hq).1)
          have HO1 : Hid (w1.ownsRow V.heap.size 3 1 v1 (kidsTo ps x (k + 1)).length (ints (kidsTo ps x (k + 1)))) := by
            show World.ownsRow _ _ _ _ _ _ _
            rw [HK.out, List.length_append, ints, List.map_append]
            exact hown1
          clear hown1 hgrow1
          go_wp2_with fail
          go_roundw
          case rel => exact ⟨k + 1, by omega, by omega, by go_num, HO1.out, HB1.out⟩
          case measure => simp [intOf]; omega
      · have hi2 : (x == s) = false := by simpa using hx
        have HK : Hid (kidsTo ps s (k + 1) = kidsTo ps s k) := by
          show _ = _
          rw [kidsTo, if_neg (fun h => by have h2 := h.2; rw [HX.out] at h2; exact hx (Option.some.inj h2))]
        go_wp2_with fail
        go_roundw
        case rel => exact ⟨k + 1, by omega, by omega, by go_num, by rw [HK.out]; exact HO.out, HB.out⟩
        case measure => simp [intOf]; omega
    · have HK : Hid (kidsTo ps s k = kidsTo ps s ps.length) := by
        show _ = _
        by_cases e : k = ps.length
        · rw [e]
        · have h1 : k = 1 := by omega
          have h2 : ps.length = 0 := by omega
          rw [h1, h2]
          rfl
      go_wp2_with fail
      go_ret
      obtain ⟨a', cap, hv, hs⟩ := sq_of_owns HO.out
      rw [HK.out] at hv hs
      exact ⟨a', cap, by rw [← hv]; rfl, hs, below_then HV.out HB.out⟩
end Go.Proofs.YtmpjebkjopfejaaGreat

namespace Go.Proofs.YtmpjebkjopfejaaGreat
open Go.ChangeShapes Go.WideShapes Go.ChangeAt Go.RowKit

/-- The walk over what lies directly below: -1 where two are not equally far. -/
def walkLv (lv : Int → Int) : List Int → Nat → Int → Int
  | [], _, level => level + 1
  | k :: r, i, level => if lv k < 0 ∨ (0 < i ∧ lv k ≠ level) then -1 else walkLv lv r (i + 1) (lv k)

def lvF (ps : List Int) : Nat → Int → Int
  | 0, _ => -1
  | f + 1, s => walkLv (lvF ps f) (kidsTo ps s ps.length) 0 (-1)

/-- Each parent is lesser than its switch. -/
def treeB (ps : List Int) : Prop := ∀ (i : Nat) (x : Int), 1 ≤ i → ps[i]? = some x → 0 ≤ x ∧ x < i

theorem kids_mem (ps : List Int) (s : Int) : ∀ (k : Nat) (x : Int), x ∈ kidsTo ps s k → ∃ i : Nat, x = i ∧ 1 ≤ i ∧ i < k ∧ ps[i]? = some s
  | 0, x, h => by simp [kidsTo] at h
  | k + 1, x, h => by
    unfold kidsTo at h
    split at h
    · rename_i hc
      rcases List.mem_append.1 h with h | h
      · obtain ⟨i, e, h1, h2, h3⟩ := kids_mem ps s k x h
        exact ⟨i, e, h1, by omega, h3⟩
      · simp at h
        exact ⟨k, h, hc.1, by omega, hc.2⟩
    · obtain ⟨i, e, h1, h2, h3⟩ := kids_mem ps s k x h
      exact ⟨i, e, h1, by omega, h3⟩

theorem walk_bound (lv : Int → Int) (f : Int) : ∀ (l : List Int) (i : Nat) (level : Int), (∀ k ∈ l, -1 ≤ lv k ∧ lv k ≤ f) → -1 ≤ level → level ≤ f → 0 ≤ f → -1 ≤ walkLv lv l i level ∧ walkLv lv l i level ≤ f + 1
  | [], i, level, _, h1, h2, _ => by unfold walkLv; omega
  | k :: r, i, level, h, h1, h2, h3 => by
    unfold walkLv
    split
    · omega
    · have hk := h k (by simp)
      exact walk_bound lv f r (i + 1) (lv k) (fun x hx => h x (by simp [hx])) hk.1 hk.2 h3

theorem lv_bound (ps : List Int) : ∀ (f : Nat) (s : Int), -1 ≤ lvF ps f s ∧ lvF ps f s ≤ f
  | 0, s => by unfold lvF; omega
  | f + 1, s => by
    unfold lvF
    have := walk_bound (lvF ps f) f (kidsTo ps s ps.length) 0 (-1) (fun k _ => lv_bound ps f k) (by omega) (by omega) (by omega)
    omega

theorem walk_congr {lv lv' : Int → Int} : ∀ (l : List Int) (i : Nat) (level : Int), (∀ k ∈ l, lv k = lv' k) → walkLv lv l i level = walkLv lv' l i level
  | [], _, _, _ => rfl
  | k :: r, i, level, h => by
    unfold walkLv
    rw [h k (by simp)]
    split
    · rfl
    · exact walk_congr r (i + 1) _ (fun x hx => h x (by simp [hx]))

/-- How much is enough doesn't matter. -/
theorem lv_enough {ps : List Int} (ht : treeB ps) : ∀ (f f' : Nat) (s : Nat), s < ps.length → ps.length ≤ s + f → ps.length ≤ s + f' → lvF ps f s = lvF ps f' s
  | 0, _, s, h0, h1, _ => by omega
  | _ + 1, 0, s, h0, _, h2 => by omega
  | f + 1, f' + 1, s, h0, h1, h2 => by
    unfold lvF
    apply walk_congr
    intro k hk
    obtain ⟨i, rfl, hi1, hi2, hi3⟩ := kids_mem ps s _ k hk
    have := ht i s hi1 hi3
    exact lv_enough ht f f' i hi2 (by omega) (by omega)

set_option maxHeartbeats 2000000 in
theorem l02Level_c (a b : Option Addr) (c m d : Nat) (ps : List Int) (hl : ps.length ≤ 1048576) (ht : treeB ps) :
    ∀ (f s : Nat) (w : World), s < ps.length → ps.length ≤ s + f → f ≤ 1048576 → Sq w a (ints ps) →
    Calls Tryz.prog 102 #[.agg #[.slice a ps.length c, .slice b m d], .int .i64 (s : Int)] w fun e w' => e = .returned (.int .i64 (lvF ps f s)) ∧ Below w.heap.size w w' := by
  intro f
  induction f with
  | zero => intro s w h0 h1; omega
  | succ f ih =>
    intro s w h0 h1 hf h
    have H : Hid (Sq w a (ints ps)) := h
    have HI : Hid (∀ (s : Nat) (w : World), s < ps.length → ps.length ≤ s + f → f ≤ 1048576 → Sq w a (ints ps) →
      Calls Tryz.prog 102 #[.agg #[.slice a ps.length c, .slice b m d], .int .i64 (s : Int)] w fun e w' => e = .returned (.int .i64 (lvF ps f s)) ∧ Below w.heap.size w w') := ih
    have HT : Hid (treeB ps) := ht
    clear ih h ht
    go_enter Tryz.func102, Tryz.ntmps102
    go_wp2_with fail
    generalize hV : w.alloc (.cells #[.slice a ps.length c, .slice b m d] 40) = V
    have HA : Hid (Row V w.heap.size [.slice a ps.length c, .slice b m d]) := by subst hV; exact row_fresh w [.slice a ps.length c, .slice b m d] 40
    have HV : Hid (Below w.heap.size w V) := by subst hV; exact low_alloc _ _
    clear hV
    refine (l02Kids_c a b c m d ps s hl _ (H.out.below HV.out)).mono ?_
    rintro e w1 ⟨a', cap, rfl, hs, hb⟩
    have HS1 : Hid (Sq w1 a' (ints (kidsTo ps s ps.length))) := hs
    have HB1 : Hid (Below V.heap.size V w1) := hb
    have HM : Hid (∀ x ∈ kidsTo ps s ps.length, ∃ i : Nat, x = i ∧ s < i ∧ i < ps.length) := fun x hx => by
      obtain ⟨i, e, h1, h2, h3⟩ := kids_mem ps s _ x hx
      have := HT.out i s h1 h3
      exact ⟨i, e, by omega, h2⟩
    have hK := kids_len ps s ps.length
    have HL : Hid (lvF ps (f + 1) s = walkLv (lvF ps f) (kidsTo ps s ps.length) 0 (-1)) := by show _ = _; rw [lvF]
    clear hs hb
    generalize kidsTo ps s ps.length = K at *
    go_wp2_with fail
    go_loopw [5, 13] (fun lv i wr => ∃ (j : Nat) (L : Int), j ≤ K.length ∧ i = .int .i64 j ∧ lv = .int .i64 L ∧ -1 ≤ L ∧ L ≤ 1048576 ∧ lvF ps (f + 1) s = walkLv (lvF ps f) (K.drop j) j L ∧ Below V.heap.size V wr ∧ Sq wr a' (ints K)) (fun _ i _ => K.length - (intOf i).toNat)
    case atStart => exact ⟨0, -1, Nat.zero_le _, rfl, rfl, by omega, by omega, HL.out, HB1.out, HS1.out⟩
    case round =>
      obtain ⟨j, L, hj, rfl, rfl, hL0, hL1, hw, hb, hs⟩ := hrel
      have HW : Hid (lvF ps (f + 1) s = walkLv (lvF ps f) (K.drop j) j L) := hw
      have HB : Hid (Below V.heap.size V wr) := hb
      have HS : Hid (Sq wr a' (ints K)) := hs
      have t0 := (HA.out.below hb).cell 0 _ rfl
      have t1 := (HA.out.below hb).cell 1 _ rfl
      clear hw hb hs HL
      by_cases hlt : j < K.length
      · have hi0 : (0 : Int) ≤ (j : Int) := by omega
        have hi1 : (j : Int) < (K.length : Int) := by omega
        obtain ⟨p, rfl, _, hc⟩ := HS.out.cell j _ (ints_at K j hlt)
        obtain ⟨i, hxi, hsi, hil⟩ := HM.out K[j] (List.getElem_mem hlt)
        have HD : Hid (K.drop j = (i : Int) :: K.drop (j + 1)) := by show _ = _; rw [List.drop_eq_getElem_cons hlt, hxi]
        rw [hxi] at hc
        clear hxi
        go_wp2_with fail
        refine (HI.out i _ hil (by omega) (by omega) ((H.out.below HV.out).below HB.out)).mono ?_
        rintro e w2 ⟨rfl, hb2⟩
        have HB2 : Hid (Below V.heap.size V w2) := below_then HB.out hb2
        have HS2 : Hid (Sq w2 (some p) (ints K)) := HS.out.below hb2
        have hbd := lv_bound ps f i
        rw [HD.out, walkLv] at HW
        clear hb2 t0 t1 hc
        generalize lvF ps f (i : Int) = n at *
        by_cases h1 : n < 0
        · have HZ : Hid (lvF ps (f + 1) s = -1) := by show _ = _; rw [HW.out, if_pos (Or.inl h1)]
          go_wp2_with fail
          go_ret
          exact ⟨by rw [HZ.out]; rfl, below_then HV.out HB2.out⟩
        · by_cases h2 : 0 < j ∧ n ≠ L
          · have HZ : Hid (lvF ps (f + 1) s = -1) := by show _ = _; rw [HW.out, if_pos (Or.inr h2)]
            obtain ⟨h2, h3⟩ := h2
            have hj0 : (0 : Int) < (j : Int) := by omega
            have hnL : (n != L) = true := by simpa using h3
            go_wp2_with fail
            go_ret
            exact ⟨by rw [HZ.out]; rfl, below_then HV.out HB2.out⟩
          · have HZ : Hid (lvF ps (f + 1) s = walkLv (lvF ps f) (K.drop (j + 1)) (j + 1) n) := by
              show _ = _
              rw [HW.out, if_neg (by intro h; rcases h with h | h; exact h1 h; exact h2 h)]
            by_cases h3 : 0 < j
            · have hj0 : (0 : Int) < (j : Int) := by omega
              have h4 : n = L := by
                apply Classical.byContradiction
                intro e
                exact h2 ⟨h3, e⟩
              subst h4
              clear h2
              go_wp2_with fail
              go_roundw
              case rel => exact ⟨j + 1, n, by omega, by go_num, rfl, by omega, by omega, HZ.out, HB2.out, HS2.out⟩
              case measure => simp [intOf]; omega
            · obtain rfl : j = 0 := by omega
              clear h2
              go_wp2_with fail
              go_roundw
              case rel => exact ⟨0 + 1, n, by omega, by go_num, rfl, by omega, by omega, HZ.out, HB2.out, HS2.out⟩
              case measure => simp [intOf]; omega
      · have HZ : Hid (lvF ps (f + 1) s = L + 1) := by show _ = _; rw [HW.out, List.drop_eq_nil_of_le (by omega), walkLv]
        go_wp2_with fail
        go_ret
        exact ⟨by rw [HZ.out]; rfl, below_then HV.out HB.out⟩
end Go.Proofs.YtmpjebkjopfejaaGreat

namespace Go.Proofs.YtmpjebkjopfejaaGreat
open Go.ChangeShapes Go.WideShapes Go.ChangeAt Go.RowKit

/-- A right topology. -/
structure TopOk (ps : List Int) (ns : List Nd) : Prop where
  one : 1 ≤ ps.length
  few : ps.length ≤ 24
  nodes : ns.length ≤ 24
  top : ps[0]? = some 0
  tree : treeB ps
  node : ∀ n ∈ ns, 0 ≤ n.l ∧ n.l < ps.length ∧ kidsTo ps n.l ps.length = [] ∧ vokB n.a n.b n.c = true
  level : 0 ≤ lvF ps ps.length 0

/-- The answer says whether P holds. -/
def Says (w : World) (P : Prop) (e : Ending) (w' : World) : Prop := ∃ k : Bool, e = .returned (.bool k) ∧ (k = true ↔ P) ∧ Below w.heap.size w w'

theorem says_no {w w' : World} {P : Prop} {e : Ending} (he : e = .returned (.bool false)) (h : ¬ P) (hb : Below w.heap.size w w') : Says w P e w' := ⟨false, he, by simp [h], hb⟩
theorem says_yes {w w' : World} {P : Prop} {e : Ending} (he : e = .returned (.bool true)) (h : P) (hb : Below w.heap.size w w') : Says w P e w' := ⟨true, he, by simp [h], hb⟩

set_option maxHeartbeats 1000000 in
theorem specTopoOk_none (a b : Option Addr) (c d : Nat) (ps : List Int) (ns : List Nd) (hp : ps.length ≤ 1048576) (_hn : ns.length ≤ 1048576) (w : World) (h : ps.length < 1) : Calls Tryz.prog 73 #[.agg #[.slice a ps.length c, .slice b ns.length d]] w (Says w (TopOk ps ns)) := by
  have hi : (ps.length : Int) < 1 := by omega
  have HN : Hid (¬ TopOk ps ns) := fun t => by have := t.one; omega
  clear h
  go_enter Tryz.func73, Tryz.ntmps73
  go_wp2_with fail
  go_ret
  exact says_no rfl HN.out (by go_grown)

set_option maxHeartbeats 1000000 in
theorem specTopoOk_many (a b : Option Addr) (c d : Nat) (ps : List Int) (ns : List Nd) (hp : ps.length ≤ 1048576) (_hn : ns.length ≤ 1048576) (w : World) (h : 24 < ps.length) : Calls Tryz.prog 73 #[.agg #[.slice a ps.length c, .slice b ns.length d]] w (Says w (TopOk ps ns)) := by
  have hi : ¬ (ps.length : Int) < 1 := by omega
  have hi' : 24 < (ps.length : Int) := by omega
  have HN : Hid (¬ TopOk ps ns) := fun t => by have := t.few; omega
  clear h
  go_enter Tryz.func73, Tryz.ntmps73
  go_wp2_with fail
  go_ret
  exact says_no rfl HN.out (by go_grown)

set_option maxHeartbeats 1000000 in
theorem specTopoOk_full (a b : Option Addr) (c d : Nat) (ps : List Int) (ns : List Nd) (hp : ps.length ≤ 1048576) (_hn : ns.length ≤ 1048576) (w : World) (h0 : 1 ≤ ps.length) (h1 : ps.length ≤ 24) (h : 24 < ns.length) : Calls Tryz.prog 73 #[.agg #[.slice a ps.length c, .slice b ns.length d]] w (Says w (TopOk ps ns)) := by
  have hi : ¬ (ps.length : Int) < 1 := by omega
  have hi' : ¬ 24 < (ps.length : Int) := by omega
  have hi2 : 24 < (ns.length : Int) := by omega
  have HN : Hid (¬ TopOk ps ns) := fun t => by have := t.nodes; omega
  clear h
  go_enter Tryz.func73, Tryz.ntmps73
  go_wp2_with fail
  go_ret
  exact says_no rfl HN.out (by go_grown)

set_option maxHeartbeats 1000000 in
theorem specTopoOk_top (a b : Option Addr) (c d : Nat) (ps : List Int) (ns : List Nd) (hp : ps.length ≤ 1048576) (_hn : ns.length ≤ 1048576) (w : World) (h : Sq w a (ints ps)) (h0 : 1 ≤ ps.length) (h1 : ps.length ≤ 24) (h2 : ns.length ≤ 24) (h3 : ps[0]? ≠ some 0) : Calls Tryz.prog 73 #[.agg #[.slice a ps.length c, .slice b ns.length d]] w (Says w (TopOk ps ns)) := by
  have hi : ¬ (ps.length : Int) < 1 := by omega
  have hi' : ¬ 24 < (ps.length : Int) := by omega
  have hi2 : ¬ 24 < (ns.length : Int) := by omega
  have hi3 : (0 : Int) < (ps.length : Int) := by omega
  have HN : Hid (¬ TopOk ps ns) := fun t => h3 t.top
  have hlt : w.heap.size < w.heap.size + 1 := by omega
  obtain ⟨p, rfl, hpb, hc⟩ := (h.below (low_alloc w (.cells #[.slice a ps.length c, .slice b ns.length d] 40))).cell 0 _ (ints_at ps 0 h0)
  have hx : (ps[0] != 0) = true := by
    simp
    intro e
    apply h3
    rw [List.getElem?_eq_getElem h0, e]
  generalize ps[0] = x at hc hx
  have hp0 : p.add 0 = p := rfl
  rw [hp0] at hc
  clear h3 h
  go_enter Tryz.func73, Tryz.ntmps73
  go_wp2_with fail
  go_ret
  exact says_no rfl HN.out (by go_grown)
end Go.Proofs.YtmpjebkjopfejaaGreat

namespace Go.Proofs.YtmpjebkjopfejaaGreat
open Go.ChangeShapes Go.WideShapes Go.ChangeAt Go.RowKit

/-- A world in which, since U, only memory has been made. -/
structure Beh (U : World) where
  w : World
  low : Below U.heap.size U w

theorem beh_some (U : World) : Nonempty (Beh U) := ⟨⟨U, Below.refl _ _⟩⟩

theorem low_drew (U : World) : Below U.heap.size U U.drew := ⟨rfl, rfl, rfl, Nat.le_refl _, fun _ _ => rfl⟩

theorem wp_region_beh {P : Program} {U : World} {id : Nat} {Q : Exit → Act → World → Prop} {a : Act} {l : List Oper} (hm : P.follows .mixedOrders = true) (hB : Region.lexB .any l.toArray = true)
    (h : wpQuiet P l.toArray (fun w' => ∃ n : Beh U, w' = n.w) (fun a' => ∀ n : Beh U, Q .normal a' n.w) l a) : (Code.region id l.toArray true).wp P Q a U := by
  refine wp_region_quiet (C := fun w' => ∃ n : Beh U, w' = n.w) hm hB ⟨⟨_, low_drew U⟩, rfl⟩ ?_
  have e : (fun a' : Act => ∀ w', (∃ n : Beh U, w' = n.w) → Q .normal a' w') = (fun a' => ∀ n : Beh U, Q .normal a' n.w) := by
    funext a'
    apply propext
    exact ⟨fun h n => h n.w ⟨n, rfl⟩, fun h w' ⟨n, hn⟩ => by rw [hn]; exact h n⟩
  rw [e]
  simpa using h

/-- A callee that only makes memory. -/
theorem calls_beh {P : Program} {U : World} {n : Beh U} {f : FuncId} {args : Array Value} {v : Value} (h : Calls P f args n.w fun e w' => e = .returned v ∧ Below n.w.heap.size n.w w') :
    Calls P f args n.w fun e w'' => e = .returned v ∧ ∃ m : Beh U, w'' = m.w :=
  h.mono fun _ w' ⟨he, hb⟩ => ⟨he, ⟨w', below_then n.low hb⟩, rfl⟩
theorem calls_beh_same {P : Program} {U : World} {n : Beh U} {f : FuncId} {args : Array Value} {v : Value} (h : Calls P f args n.w fun e w' => e = .returned v ∧ w' = n.w) :
    Calls P f args n.w fun e w'' => e = .returned v ∧ ∃ m : Beh U, w'' = m.w :=
  h.mono fun _ _ ⟨he, hb⟩ => ⟨he, n, hb⟩

theorem Beh.row {U : World} {g : Nat} {xs : List Value} (h : Row U g xs) (i : Nat) (u : Value) (hu : xs[i]? = some u) : ∀ n : Beh U, n.w.cell? ⟨g, i, none⟩ = some u := fun n => (h.below n.low).cell i u hu
theorem Beh.cell {U : World} {p : Addr} {u : Value} (h : U.cell? p = some u) : ∀ n : Beh U, n.w.cell? p = some u := fun n => (n.low.cell (World.block_lt_of_cell? _ _ h)).trans h
theorem Beh.node {U : World} {p : Addr} {xs : List Nd} {x : Nd} {j : Nat} (h : Sq U (some p) (flat xs)) (hx : xs[j]? = some x) :
    (∀ n : Beh U, n.w.cell? (p.add (j * 4)) = some (.int .i64 x.l)) ∧ (∀ n : Beh U, n.w.cell? ⟨(p.add (j * 4)).block, (p.add (j * 4)).off + 1, none⟩ = some (.int .i64 x.a)) ∧
      (∀ n : Beh U, n.w.cell? ⟨(p.add (j * 4)).block, (p.add (j * 4)).off + 2, none⟩ = some (.int .i64 x.b)) ∧ (∀ n : Beh U, n.w.cell? ⟨(p.add (j * 4)).block, (p.add (j * 4)).off + 3, none⟩ = some (.int .i64 x.c)) :=
  ⟨fun n => ((h.below n.low).nodeAt hx).1, fun n => ((h.below n.low).nodeAt hx).2.1, fun n => ((h.below n.low).nodeAt hx).2.2.1, fun n => ((h.below n.low).nodeAt hx).2.2.2⟩
end Go.Proofs.YtmpjebkjopfejaaGreat
