/- The cursor's beginning; two vectors; a text and a byte. -/
import Derived.Test.YtejleghdgdbbnaaGreatDoorPartsP
import Derived.Deep.QuietTactic
import Derived.BigQuiet
import Derived.Deep.DeepCutAuto
namespace Go.Proofs.YtejleghdgdbbnaaGreatDoor
open Go.ChangeShapes Go.WideShapes Go.ChangeAt Go.RowKit

/-- A code of n bytes can be read. -/
structure CodeIs (w : World) (a : Option Addr) (n : Nat) : Prop where
  small : n ≤ 1048576
  cell : ∀ i, i < n → ∃ p x, a = some p ∧ p.block < w.heap.size ∧ w.cell? (p.add i) = some (.int .u8 x) ∧ 0 ≤ x ∧ x < 256

theorem grown_refl (w : World) (r : Option Nat) : w.grownBy w r := ⟨rfl, rfl, rfl, Nat.le_refl _, fun _ _ _ => rfl⟩

theorem CodeIs.grown {w w' : World} {a : Option Addr} {n g : Nat} (h : CodeIs w a n) (hg : w.grownBy w' (some g)) (hne : ∀ p, a = some p → 0 < n → p.block ≠ g) : CodeIs w' a n :=
  ⟨h.small, fun i hi => by
    obtain ⟨p, x, ha, hp, hc, h0, h1⟩ := h.cell i hi
    refine ⟨p, x, ha, Nat.lt_of_lt_of_le hp hg.size, ?_, h0, h1⟩
    have hb : (p.add i).block = p.block := block_add p i
    rw [World.cell?_of_block (a := p.add i) (hg.block _ (by rw [hb]; exact hp) (by rw [hb]; intro e; exact hne p ha (by omega) (Option.some.inj e)))]
    exact hc⟩

theorem drewN_grown (w : World) (n : Nat) (r : Option Nat) : w.grownBy (w.drewN n) r := ⟨rfl, rfl, rfl, Nat.le_refl _, fun _ _ _ => rfl⟩

theorem drewN_low (w : World) (n : Nat) : Below w.heap.size w (w.drewN n) := ⟨rfl, rfl, rfl, Nat.le_refl _, fun _ _ => rfl⟩

/-- The cursor lies in block g, over the code. -/
def Cur (w : World) (g : Nat) (a : Option Addr) (n cap : Nat) : Prop :=
  ∃ (i : Nat) (h : Int), i ≤ n ∧ Row w g [.slice a n cap, .int .i64 i, .int .i64 h] ∧ CodeIs w a n ∧ ∀ p, a = some p → 0 < n → p.block ≠ g

theorem bits_and (m : Nat) (hm : m < 4294967296) (x : Int) : 0 ≤ bits .and .i64 x m ∧ bits .and .i64 x m ≤ m := by
  have h1 : (BitVec.ofInt 64 x &&& BitVec.ofInt 64 (m : Int)).toNat ≤ m := by
    rw [BitVec.toNat_and]
    have h2 : (BitVec.ofInt 64 (m : Int)).toNat = m := by rw [BitVec.toNat_ofInt]; omega
    rw [h2]
    exact Nat.and_le_right
  show 0 ≤ IntKind.i64.wrap ((BitVec.ofInt 64 x &&& BitVec.ofInt 64 (m : Int)).toNat : Int) ∧ IntKind.i64.wrap ((BitVec.ofInt 64 x &&& BitVec.ofInt 64 (m : Int)).toNat : Int) ≤ m
  generalize (BitVec.ofInt 64 x &&& BitVec.ofInt 64 (m : Int)).toNat = k at h1
  have h3 : IntKind.i64.wrap (k : Int) = k := by
    rw [IntKind.wrap_i64]
    omega
  omega

theorem bits255 (x : Int) : 0 ≤ bits .and .i64 x 255 ∧ bits .and .i64 x 255 < 256 := by
  have h := bits_and 255 (by decide) x
  exact ⟨h.1, Int.lt_of_le_of_lt h.2 (by decide)⟩

set_option maxHeartbeats 1000000 in
theorem l01Byte_c (g : Nat) (a : Option Addr) (n cap : Nat) (w : World) (h : Cur w g a n cap) :
    Calls Tryz.prog 43 #[.pointer (some ⟨g, 0, none⟩)] w fun e w' => ∃ x : Int, e = .returned (.int .i64 x) ∧ 0 ≤ x ∧ x < 256 ∧ w.grownBy w' (some g) ∧ Cur w' g a n cap := by
  obtain ⟨i, h, hi, hr, hcode, hne⟩ := h
  have HR : Hid (Row w g [.slice a n cap, .int .i64 i, .int .i64 h]) := hr
  have HC : Hid (CodeIs w a n) := hcode
  have HN : Hid (∀ p, a = some p → 0 < n → p.block ≠ g) := hne
  have hsm := hcode.small
  have c0 : w.cell? ⟨g, 0, none⟩ = some (.slice a n cap) := hr.cell 0 _ rfl
  have c1 : w.cell? ⟨g, 1, none⟩ = some (.int .i64 i) := hr.cell 1 _ rfl
  have c2 : w.cell? ⟨g, 2, none⟩ = some (.int .i64 h) := hr.cell 2 _ rfl
  have f2 : w.frozen? ⟨g, 2, none⟩ = false := hr.free 2
  clear hr hcode hne
  go_enter Tryz.func43, Tryz.ntmps43
  go_wp2_with fail
  generalize wrap64 (wrap64 (h * 6364136223846793005) + 1442695040888963407) = h'
  go_quiet (fail)
  have B1 := bits_and 255 (by decide) (bits BinOp.xor IntKind.i64 (h' / 8589934592) (h' / 35184372088832))
  generalize bits BinOp.and IntKind.i64 (bits BinOp.xor IntKind.i64 (h' / 8589934592) (h' / 35184372088832)) ((255 : Nat) : Int) = y at B1
  have HR1 : Hid (Row ((w.setCell ⟨g, 2, none⟩ (.int .i64 h')).drewN nq) g [.slice a n cap, .int .i64 i, .int .i64 h']) := (HR.out.set 2 (by simp) (.int .i64 h')).below (drewN_low _ _)
  have HG1 : Hid (w.grownBy ((w.setCell ⟨g, 2, none⟩ (.int .i64 h')).drewN nq) (some g)) := Lib.grownBy_trans (Lib.grownBy_setB (grown_refl _ _) _ _) (drewN_grown _ _ _)
  have HC1 : Hid (CodeIs ((w.setCell ⟨g, 2, none⟩ (.int .i64 h')).drewN nq) a n) := HC.out.grown HG1.out HN.out
  generalize (w.setCell ⟨g, 2, none⟩ (.int .i64 h')).drewN nq = W1 at HR1 HG1 HC1
  clear c0 c1 c2 f2 HR HC
  have c0 : W1.cell? ⟨g, 0, none⟩ = some (.slice a n cap) := HR1.out.cell 0 _ rfl
  have c1 : W1.cell? ⟨g, 1, none⟩ = some (.int .i64 i) := HR1.out.cell 1 _ rfl
  have f1 : W1.frozen? ⟨g, 1, none⟩ = false := HR1.out.free 1
  by_cases hlt : i < n
  · have hi1 : (i : Int) < (n : Int) := by omega
    have hi0 : (0 : Int) ≤ (i : Int) := by omega
    obtain ⟨p, x, rfl, hp, hx, hx0, hx1⟩ := HC1.out.cell i hlt
    go_wp2_with fail
    go_quiet (fail)
    go_wp2_with fail
    go_quiet (fail)
    go_wp2_with fail
    rename_i m1 m2
    have B2 := bits255 (y + x)
    have HS : Hid (Row ((W1.drewN (m2 + nq)).setCell ⟨g, 1, none⟩ (.int .i64 ((i + 1 : Nat) : Int))) g [.slice (some p) n cap, .int .i64 ((i + 1 : Nat) : Int), .int .i64 h']) := (HR1.out.below (drewN_low _ _)).set 1 (by simp) _
    have HG2 : Hid (w.grownBy ((W1.drewN (m2 + nq)).setCell ⟨g, 1, none⟩ (.int .i64 ((i + 1 : Nat) : Int))) (some g)) := Lib.grownBy_setB (Lib.grownBy_trans HG1.out (drewN_grown _ _ _)) _ _
    have HC2 : Hid (CodeIs ((W1.drewN (m2 + nq)).setCell ⟨g, 1, none⟩ (.int .i64 ((i + 1 : Nat) : Int))) (some p) n) := HC1.out.grown (Lib.grownBy_setB (drewN_grown _ _ _) _ _) HN.out
    go_ret
    exact ⟨_, rfl, B2.1, B2.2, HG2.out, i + 1, h', by omega, HS.out, HC2.out, HN.out⟩
  · have hi1 : ¬ (i : Int) < (n : Int) := by omega
    go_wp2_with fail
    go_quiet (fail)
    go_wp2_with fail
    go_ret
    exact ⟨_, rfl, B1.1, by omega, Lib.grownBy_trans HG1.out (drewN_grown _ _ _), i, h', hi, HR1.out.below (drewN_low _ _), HC1.out.grown (drewN_grown _ _ (some g)) HN.out, HN.out⟩
end Go.Proofs.YtejleghdgdbbnaaGreatDoor

namespace Go.Proofs.YtejleghdgdbbnaaGreatDoor
open Go.ChangeShapes Go.WideShapes Go.ChangeAt Go.RowKit

theorem grown_new {a w : World} {r : Option Nat} (h : a.grownBy w r) (b i : Nat) (hb : a.heap.size ≤ b) (v : Value) : a.grownBy (w.setCell ⟨b, i, none⟩ v) r := by
  have k := Lib.grownBy_setCell w b i v
  exact ⟨k.os.trans h.os, k.tape.trans h.tape, k.output.trans h.output, Nat.le_trans h.size k.size, fun j hj hne => (k.block j (Nat.lt_of_lt_of_le hj h.size) (by intro e; cases e; omega)).trans (h.block j hj hne)⟩

theorem CodeIs.below {w w' : World} {a : Option Addr} {n : Nat} (h : CodeIs w a n) (hb : Below w.heap.size w w') : CodeIs w' a n :=
  ⟨h.small, fun i hi => by
    obtain ⟨p, x, ha, hp, hc, h0, h1⟩ := h.cell i hi
    refine ⟨p, x, ha, Nat.lt_of_lt_of_le hp hb.size, ?_, h0, h1⟩
    rw [hb.cell (p := p.add i) (by rw [block_add]; exact hp)]
    exact hc⟩

theorem Cur.below {w w' : World} {g : Nat} {a : Option Addr} {n cap : Nat} (h : Cur w g a n cap) (hb : Below w.heap.size w w') : Cur w' g a n cap := by
  obtain ⟨i, v, hi, hr, hc, hn⟩ := h
  exact ⟨i, v, hi, hr.below hb, hc.below hb, hn⟩

/-- Another block has been written since. -/
theorem Cur.on {w W W' : World} {g b : Nat} {a : Option Addr} {n cap : Nat} (h0 : Cur w g a n cap) (hg : w.grownBy W' (some g)) (h1 : Cur W g a n cap) (h2 : W.grownBy W' (some b)) (hb : g ≠ b) : Cur W' g a n cap := by
  obtain ⟨_, _, _, _, hc, hn⟩ := h0
  obtain ⟨i, v, hi, hr, _, _⟩ := h1
  exact ⟨i, v, hi, hr.far h2 (by intro e; exact hb (Option.some.inj e)), hc.grown hg hn, hn⟩

theorem Cur.lt {w : World} {g : Nat} {a : Option Addr} {n cap : Nat} (h : Cur w g a n cap) : g < w.heap.size := by
  obtain ⟨_, _, _, hr, _⟩ := h
  exact hr.lt

/-- What has grown since w, the cursor's block alone written of what lay there, with the cursor in it. -/
def Tip (w W : World) (g : Nat) (a : Option Addr) (n cap : Nat) : Prop := w.grownBy W (some g) ∧ Cur W g a n cap

theorem Tip.set {w W : World} {g : Nat} {a : Option Addr} {n cap : Nat} (h0 : Cur w g a n cap) (t : Tip w W g a n cap) (b i : Nat) (hb : w.heap.size ≤ b) (v : Value) : Tip w (W.setCell ⟨b, i, none⟩ v) g a n cap :=
  ⟨grown_new t.1 b i hb v, Cur.on h0 (grown_new t.1 b i hb v) t.2 (Lib.grownBy_setCell W b i v) (by have := h0.lt; omega)⟩

theorem row_new (w : World) (xs : List Value) (t : TypeId) : Row (w.alloc (.cells xs.toArray t)) w.heap.size xs := by
  refine ⟨fun i u hu => ?_, fun i => ?_, by go_size⟩
  · rw [World.cell?_alloc_at _ _ _ _ rfl]
    simpa using hu
  · exact World.frozen?_alloc_at _ _ _ _ rfl

theorem mod_in {x m : Int} (hm : 0 < m) : 0 ≤ x % m ∧ x % m < m := ⟨Int.emod_nonneg _ (by omega), Int.emod_lt_of_pos _ hm⟩
theorem tmod_in {x m : Int} (hx : 0 ≤ x) (hm : 0 < m) : 0 ≤ x.tmod m ∧ x.tmod m < m := by
  rw [Int.tmod_eq_emod_of_nonneg hx]; exact mod_in hm

set_option maxHeartbeats 1000000 in
theorem l01Below_c (g : Nat) (a : Option Addr) (n cap : Nat) (m : Int) (hm : 0 < m) (hm' : m ≤ 4294967296) (w : World) (h : Cur w g a n cap) :
    Calls Tryz.prog 24 #[.pointer (some ⟨g, 0, none⟩), .int .i64 m] w fun e w' => ∃ x : Int, e = .returned (.int .i64 x) ∧ 0 ≤ x ∧ x < m ∧ w.grownBy w' (some g) ∧ Cur w' g a n cap := by
  have H : Hid (Cur w g a n cap) := h
  clear h
  by_cases hs : m ≤ 256
  · go_enter Tryz.func24, Tryz.ntmps24
    go_wp2_with fail
    refine (l01Byte_c g a n cap _ H.out).mono ?_
    rintro e w1 ⟨x, rfl, hx0, hx1, hg1, hc1⟩
    have HG1 : Hid (w.grownBy w1 (some g)) := hg1
    have HC1 : Hid (Cur w1 g a n cap) := hc1
    clear hg1 hc1
    go_wp2_with fail
    go_ret
    exact ⟨_, rfl, (by first | exact (mod_in hm).1 | exact (tmod_in hx0 hm).1), (by first | exact (mod_in hm).2 | exact (tmod_in hx0 hm).2), HG1.out, HC1.out⟩
  · go_enter Tryz.func24, Tryz.ntmps24
    go_wp2_with fail
    refine (l01Byte_c g a n cap _ H.out).mono ?_
    rintro e w1 ⟨x, rfl, hx0, hx1, hg1, hc1⟩
    have HG1 : Hid (w.grownBy w1 (some g)) := hg1
    have HC1 : Hid (Cur w1 g a n cap) := hc1
    clear hg1 hc1
    go_wp2_with fail
    refine (l01Byte_c g a n cap _ HC1.out).mono ?_
    rintro e w2 ⟨y, rfl, hy0, hy1, hg2, hc2⟩
    have HG2 : Hid (w.grownBy w2 (some g)) := Lib.grownBy_trans HG1.out hg2
    have HC2 : Hid (Cur w2 g a n cap) := hc2
    clear hg2 hc2 HG1 HC1
    go_wp2_with fail
    refine (l01Byte_c g a n cap _ HC2.out).mono ?_
    rintro e w3 ⟨z, rfl, hz0, hz1, hg3, hc3⟩
    have HG3 : Hid (w.grownBy w3 (some g)) := Lib.grownBy_trans HG2.out hg3
    have HC3 : Hid (Cur w3 g a n cap) := hc3
    clear hg3 hc3 HG2 HC2
    go_wp2_with fail
    refine (l01Byte_c g a n cap _ HC3.out).mono ?_
    rintro e w4 ⟨v, rfl, hv0, hv1, hg4, hc4⟩
    have HG4 : Hid (w.grownBy w4 (some g)) := Lib.grownBy_trans HG3.out hg4
    have HC4 : Hid (Cur w4 g a n cap) := hc4
    clear hg4 hc4 HG3 HC3
    go_wp2_with fail
    go_ret
    exact ⟨_, rfl, (by first | exact (mod_in hm).1 | exact (tmod_in (by omega) hm).1), (by first | exact (mod_in hm).2 | exact (tmod_in (by omega) hm).2), HG4.out, HC4.out⟩
end Go.Proofs.YtejleghdgdbbnaaGreatDoor

namespace Go.Proofs.YtejleghdgdbbnaaGreatDoor
open Go.ChangeShapes Go.WideShapes Go.ChangeAt Go.RowKit

set_option maxHeartbeats 1000000 in
theorem l01Raw_c (g : Nat) (a : Option Addr) (n cap : Nat) (w : World) (h : Cur w g a n cap) :
    Calls Tryz.prog 26 #[.pointer (some ⟨g, 0, none⟩)] w fun e w' => ∃ x : Int, e = .returned (.int .i64 x) ∧ w.grownBy w' (some g) ∧ Cur w' g a n cap := by
  have H : Hid (Cur w g a n cap) := h
  clear h
  go_enter Tryz.func26, Tryz.ntmps26
  go_wp2_with fail
  refine (l01Below_c g a n cap _ (by decide) (by decide) _ H.out).mono ?_
  rintro e w1 ⟨x, rfl, hx0, hx1, hg1, hc1⟩
  have HG1 : Hid (w.grownBy w1 (some g)) := hg1
  have HC1 : Hid (Cur w1 g a n cap) := hc1
  clear hg1 hc1
  by_cases h4 : x < 4
  · go_wp2_with fail
    refine (l01Below_c g a n cap _ (by decide) (by decide) _ HC1.out).mono ?_
    rintro e w2 ⟨y, rfl, hy0, hy1, hg2, hc2⟩
    have HG2 : Hid (w.grownBy w2 (some g)) := Lib.grownBy_trans HG1.out hg2
    have HC2 : Hid (Cur w2 g a n cap) := hc2
    clear hg2 hc2 HG1 HC1
    go_wp2_with fail
    go_ret
    exact ⟨_, rfl, HG2.out, HC2.out⟩
  · obtain rfl | rfl | rfl | rfl | rfl : x = 4 ∨ x = 5 ∨ x = 6 ∨ x = 7 ∨ x = 8 := by omega
    all_goals
      clear h4 hx0 hx1
      go_wp2_with fail
      refine (l01Below_c g a n cap _ (by decide) (by decide) _ HC1.out).mono ?_
      rintro e w2 ⟨y, rfl, hy0, hy1, hg2, hc2⟩
      have HG2 : Hid (w.grownBy w2 (some g)) := Lib.grownBy_trans HG1.out hg2
      have HC2 : Hid (Cur w2 g a n cap) := hc2
      clear hg2 hc2 HG1 HC1
      go_wp2_with fail
      go_ret
      exact ⟨_, rfl, HG2.out, HC2.out⟩

set_option maxHeartbeats 1000000 in
theorem l01Vec_c (g : Nat) (a : Option Addr) (n cap : Nat) (w : World) (h : Cur w g a n cap) :
    Calls Tryz.prog 63 #[.pointer (some ⟨g, 0, none⟩)] w fun e w' => ∃ x y z : Int, e = .returned (.agg #[.int .i64 x, .int .i64 y, .int .i64 z]) ∧ w.grownBy w' (some g) ∧ Cur w' g a n cap := by
  have H : Hid (Cur w g a n cap) := h
  have hlt := h.lt
  have hne : g ≠ w.heap.size := by omega
  clear h
  go_enter Tryz.func63, Tryz.ntmps63
  go_wp2_with fail
  have HV0 : Hid (Row (w.alloc (.cells #[.int .i64 0, .int .i64 0, .int .i64 0] 24)) w.heap.size [.int .i64 0, .int .i64 0, .int .i64 0]) := row_new w [.int .i64 0, .int .i64 0, .int .i64 0] 24
  have HG0 : Hid (w.grownBy (w.alloc (.cells #[.int .i64 0, .int .i64 0, .int .i64 0] 24)) (some g)) := World.grownBy_alloc w _ _
  have HC0 : Hid (Cur (w.alloc (.cells #[.int .i64 0, .int .i64 0, .int .i64 0] 24)) g a n cap) := H.out.below (by go_grown)
  generalize w.alloc (.cells #[.int .i64 0, .int .i64 0, .int .i64 0] 24) = w0 at HV0 HG0 HC0
  refine (l01Below_c g a n cap 9 (by decide) (by decide) _ HC0.out).mono ?_
  rintro e w1 ⟨x1, rfl, _, _, hg, hc⟩
  have HG1 : Hid (w.grownBy w1 (some g)) := Lib.grownBy_trans HG0.out hg
  have HV1 : Hid (Row w1 w.heap.size [.int .i64 0, .int .i64 0, .int .i64 0]) := HV0.out.far hg (by intro e; exact hne (Option.some.inj e).symm)
  have HC1 : Hid (Cur w1 g a n cap) := hc
  clear hg hc
  go_wp2_with fail
  refine (l01Below_c g a n cap 17 (by decide) (by decide) _ HC1.out).mono ?_
  rintro e w2 ⟨x2, rfl, _, _, hg, hc⟩
  have HG2 : Hid (w.grownBy w2 (some g)) := Lib.grownBy_trans HG1.out hg
  have HV2 : Hid (Row w2 w.heap.size [.int .i64 0, .int .i64 0, .int .i64 0]) := HV1.out.far hg (by intro e; exact hne (Option.some.inj e).symm)
  have HC2 : Hid (Cur w2 g a n cap) := hc
  clear hg hc
  go_wp2_with fail
  refine (l01Below_c g a n cap 3 (by decide) (by decide) _ HC2.out).mono ?_
  rintro e w3 ⟨x3, rfl, _, _, hg, hc⟩
  have HG3 : Hid (w.grownBy w3 (some g)) := Lib.grownBy_trans HG2.out hg
  have HV3 : Hid (Row w3 w.heap.size [.int .i64 0, .int .i64 0, .int .i64 0]) := HV2.out.far hg (by intro e; exact hne (Option.some.inj e).symm)
  have HC3 : Hid (Cur w3 g a n cap) := hc
  clear hg hc
  go_wp2_with fail
  have hq : w.heap.size < w3.heap.size := HV3.out.lt
  have HQ4 : Hid (Row (w3.alloc (.cells #[.int .i64 x1, .int .i64 x2, .int .i64 x3] 24)) w3.heap.size [.int .i64 x1, .int .i64 x2, .int .i64 x3]) := row_new w3 [.int .i64 x1, .int .i64 x2, .int .i64 x3] 24
  have HB4 : Hid (Below w3.heap.size w3 (w3.alloc (.cells #[.int .i64 x1, .int .i64 x2, .int .i64 x3] 24))) := (Below.refl _ _).alloc (Nat.le_refl _) _
  generalize w3.alloc (.cells #[.int .i64 x1, .int .i64 x2, .int .i64 x3] 24) = w4 at HQ4 HB4
  have HG4 : Hid (w.grownBy w4 (some g)) := Lib.grownBy_below HG3.out HB4.out
  have HV4 : Hid (Row w4 w.heap.size [.int .i64 0, .int .i64 0, .int .i64 0]) := HV3.out.below HB4.out
  have HC4 : Hid (Cur w4 g a n cap) := HC3.out.below HB4.out
  generalize w3.heap.size = q at hq HQ4 HB4
  clear HB4 HG3 HV3 HC3 HG2 HV2 HC2 HG1 HV1 HC1 HG0 HV0 HC0
  have hgq : g ≠ q := by omega
  refine (l01Below_c g a n cap 14 (by decide) (by decide) _ HC4.out).mono ?_
  rintro e w5 ⟨x5, rfl, h50, h51, hg, hc⟩
  have HG5 : Hid (w.grownBy w5 (some g)) := Lib.grownBy_trans HG4.out hg
  have HV5 : Hid (Row w5 w.heap.size [.int .i64 0, .int .i64 0, .int .i64 0]) := HV4.out.far hg (by intro e; exact hne (Option.some.inj e).symm)
  have HQ5 : Hid (Row w5 q [.int .i64 x1, .int .i64 x2, .int .i64 x3]) := HQ4.out.far hg (by intro e; exact hgq (Option.some.inj e).symm)
  have HC5 : Hid (Cur w5 g a n cap) := hc
  clear hg hc HG4 HV4 HQ4 HC4
  by_cases h5 : x5 = 0
  · subst h5
    go_wp2_with fail
    refine (l01Below_c g a n cap 2 (by decide) (by decide) _ HC5.out).mono ?_
    rintro e w6 ⟨x6, rfl, h60, h61, hg, hc⟩
    have HG6 : Hid (w.grownBy w6 (some g)) := Lib.grownBy_trans HG5.out hg
    have HV6 : Hid (Row w6 w.heap.size [.int .i64 0, .int .i64 0, .int .i64 0]) := HV5.out.far hg (by intro e; exact hne (Option.some.inj e).symm)
    have HQ6 : Hid (Row w6 q [.int .i64 x1, .int .i64 x2, .int .i64 x3]) := HQ5.out.far hg (by intro e; exact hgq (Option.some.inj e).symm)
    have HC6 : Hid (Cur w6 g a n cap) := hc
    clear hg hc HG5 HV5 HQ5 HC5
    have v0 := HV6.out.cell 0 _ rfl
    have v1 := HV6.out.cell 1 _ rfl
    have v2 := HV6.out.cell 2 _ rfl
    have fv0 := HV6.out.free 0
    have fv1 := HV6.out.free 1
    have fv2 := HV6.out.free 2
    have q0 := HQ6.out.cell 0 _ rfl
    have q1 := HQ6.out.cell 1 _ rfl
    have q2 := HQ6.out.cell 2 _ rfl
    have fq1 := HQ6.out.free 1
    have hvq : w.heap.size ≠ q := by omega
    have hqv : q ≠ w.heap.size := by omega
    go_wp2_with fail
    have T1 := Tip.set H.out ⟨HG6.out, HC6.out⟩ q 1 (by omega) (.int .i64 (1000000 - x6))
    have T2 := Tip.set H.out T1 w.heap.size 0 (Nat.le_refl _) (.int .i64 x1)
    have T3 := Tip.set H.out T2 w.heap.size 1 (Nat.le_refl _) (.int .i64 (1000000 - x6))
    have T4 := Tip.set H.out T3 w.heap.size 2 (Nat.le_refl _) (.int .i64 x3)
    exact bodyPost_ret (v := .agg #[.int .i64 x1, .int .i64 (1000000 - x6), .int .i64 x3]) (by simp [results, Tryz.results63, go_sem, *]) rfl ⟨_, _, _, rfl, T4.1, T4.2⟩
  · have h5b : (x5 == 0) = false := by simpa using h5
    have v0 := HV5.out.cell 0 _ rfl
    have v1 := HV5.out.cell 1 _ rfl
    have v2 := HV5.out.cell 2 _ rfl
    have fv0 := HV5.out.free 0
    have fv1 := HV5.out.free 1
    have fv2 := HV5.out.free 2
    have q0 := HQ5.out.cell 0 _ rfl
    have q1 := HQ5.out.cell 1 _ rfl
    have q2 := HQ5.out.cell 2 _ rfl
    have hvq : w.heap.size ≠ q := by omega
    have hqv : q ≠ w.heap.size := by omega
    go_wp2_with fail
    have T2 := Tip.set H.out ⟨HG5.out, HC5.out⟩ w.heap.size 0 (Nat.le_refl _) (.int .i64 x1)
    have T3 := Tip.set H.out T2 w.heap.size 1 (Nat.le_refl _) (.int .i64 x2)
    have T4 := Tip.set H.out T3 w.heap.size 2 (Nat.le_refl _) (.int .i64 x3)
    exact bodyPost_ret (v := .agg #[.int .i64 x1, .int .i64 x2, .int .i64 x3]) (by simp [results, Tryz.results63, go_sem, *]) rfl ⟨_, _, _, rfl, T4.1, T4.2⟩
end Go.Proofs.YtejleghdgdbbnaaGreatDoor

namespace Go.Proofs.YtejleghdgdbbnaaGreatDoor
open Go.ChangeShapes Go.WideShapes Go.ChangeAt Go.RowKit

set_option maxHeartbeats 2000000 in
theorem l01Any_c (g : Nat) (a : Option Addr) (n cap : Nat) (w : World) (h : Cur w g a n cap) :
    Calls Tryz.prog 46 #[.pointer (some ⟨g, 0, none⟩)] w fun e w' => ∃ x y z : Int, e = .returned (.agg #[.int .i64 x, .int .i64 y, .int .i64 z]) ∧ w.grownBy w' (some g) ∧ Cur w' g a n cap := by
  have H : Hid (Cur w g a n cap) := h
  have hlt := h.lt
  have hne : g ≠ w.heap.size := by omega
  clear h
  go_enter Tryz.func46, Tryz.ntmps46
  go_wp2_with fail
  have HV0 : Hid (Row (w.alloc (.cells #[.int .i64 0, .int .i64 0, .int .i64 0] 24)) w.heap.size [.int .i64 0, .int .i64 0, .int .i64 0]) := row_new w [.int .i64 0, .int .i64 0, .int .i64 0] 24
  have HG0 : Hid (w.grownBy (w.alloc (.cells #[.int .i64 0, .int .i64 0, .int .i64 0] 24)) (some g)) := World.grownBy_alloc w _ _
  have HC0 : Hid (Cur (w.alloc (.cells #[.int .i64 0, .int .i64 0, .int .i64 0] 24)) g a n cap) := H.out.below (by go_grown)
  generalize w.alloc (.cells #[.int .i64 0, .int .i64 0, .int .i64 0] 24) = w0 at HV0 HG0 HC0
  refine (l01Vec_c g a n cap _ HC0.out).mono ?_
  rintro e w3 ⟨x1, x2, x3, rfl, hg, hc⟩
  have HG3 : Hid (w.grownBy w3 (some g)) := Lib.grownBy_trans HG0.out hg
  have HV3 : Hid (Row w3 w.heap.size [.int .i64 0, .int .i64 0, .int .i64 0]) := HV0.out.far hg (by intro e; exact hne (Option.some.inj e).symm)
  have HC3 : Hid (Cur w3 g a n cap) := hc
  clear hg hc HG0 HV0 HC0
  go_wp2_with fail
  have hq : w.heap.size < w3.heap.size := HV3.out.lt
  have HQ4 : Hid (Row (w3.alloc (.cells #[.int .i64 x1, .int .i64 x2, .int .i64 x3] 24)) w3.heap.size [.int .i64 x1, .int .i64 x2, .int .i64 x3]) := row_new w3 [.int .i64 x1, .int .i64 x2, .int .i64 x3] 24
  have HB4 : Hid (Below w3.heap.size w3 (w3.alloc (.cells #[.int .i64 x1, .int .i64 x2, .int .i64 x3] 24))) := (Below.refl _ _).alloc (Nat.le_refl _) _
  generalize w3.alloc (.cells #[.int .i64 x1, .int .i64 x2, .int .i64 x3] 24) = w4 at HQ4 HB4
  have HG4 : Hid (w.grownBy w4 (some g)) := Lib.grownBy_below HG3.out HB4.out
  have HV4 : Hid (Row w4 w.heap.size [.int .i64 0, .int .i64 0, .int .i64 0]) := HV3.out.below HB4.out
  have HC4 : Hid (Cur w4 g a n cap) := HC3.out.below HB4.out
  generalize w3.heap.size = q at hq HQ4 HB4
  clear HB4 HG3 HV3 HC3
  have hgq : g ≠ q := by omega
  refine (l01Below_c g a n cap 12 (by decide) (by decide) _ HC4.out).mono ?_
  rintro e w5 ⟨x5, rfl, h50, h51, hg, hc⟩
  have HG5 : Hid (w.grownBy w5 (some g)) := Lib.grownBy_trans HG4.out hg
  have HV5 : Hid (Row w5 w.heap.size [.int .i64 0, .int .i64 0, .int .i64 0]) := HV4.out.far hg (by intro e; exact hne (Option.some.inj e).symm)
  have HQ5 : Hid (Row w5 q [.int .i64 x1, .int .i64 x2, .int .i64 x3]) := HQ4.out.far hg (by intro e; exact hgq (Option.some.inj e).symm)
  have HC5 : Hid (Cur w5 g a n cap) := hc
  clear hg hc HG4 HV4 HQ4 HC4
  have hvq : w.heap.size ≠ q := by omega
  have hqv : q ≠ w.heap.size := by omega
  rcases (by omega : x5 = 0 ∨ x5 = 1 ∨ x5 = 2 ∨ 2 < x5) with rfl | rfl | rfl | h5
  · clear h50 h51
    go_wp2_with fail
    refine (l01Raw_c g a n cap _ HC5.out).mono ?_
    rintro e w6 ⟨x6, rfl, hg, hc⟩
    have HG6 : Hid (w.grownBy w6 (some g)) := Lib.grownBy_trans HG5.out hg
    have HV6 : Hid (Row w6 w.heap.size [.int .i64 0, .int .i64 0, .int .i64 0]) := HV5.out.far hg (by intro e; exact hne (Option.some.inj e).symm)
    have HQ6 : Hid (Row w6 q [.int .i64 x1, .int .i64 x2, .int .i64 x3]) := HQ5.out.far hg (by intro e; exact hgq (Option.some.inj e).symm)
    have HC6 : Hid (Cur w6 g a n cap) := hc
    clear hg hc HG5 HV5 HQ5 HC5
    have v0 := HV6.out.cell 0 _ rfl
    have v1 := HV6.out.cell 1 _ rfl
    have v2 := HV6.out.cell 2 _ rfl
    have fv0 := HV6.out.free 0
    have fv1 := HV6.out.free 1
    have fv2 := HV6.out.free 2
    have q0 := HQ6.out.cell 0 _ rfl
    have q1 := HQ6.out.cell 1 _ rfl
    have q2 := HQ6.out.cell 2 _ rfl
    have fq := HQ6.out.free 0
    go_wp2_with fail
    have T1 := Tip.set H.out ⟨HG6.out, HC6.out⟩ q 0 (by omega) (.int .i64 x6)
    have T2 := Tip.set H.out T1 w.heap.size 0 (Nat.le_refl _) (.int .i64 x6)
    have T3 := Tip.set H.out T2 w.heap.size 1 (Nat.le_refl _) (.int .i64 x2)
    have T4 := Tip.set H.out T3 w.heap.size 2 (Nat.le_refl _) (.int .i64 x3)
    exact bodyPost_ret (v := .agg #[.int .i64 x6, .int .i64 x2, .int .i64 x3]) (by simp [results, Tryz.results46, go_sem, *]) rfl ⟨_, _, _, rfl, T4.1, T4.2⟩
  · clear h50 h51
    go_wp2_with fail
    refine (l01Raw_c g a n cap _ HC5.out).mono ?_
    rintro e w6 ⟨x6, rfl, hg, hc⟩
    have HG6 : Hid (w.grownBy w6 (some g)) := Lib.grownBy_trans HG5.out hg
    have HV6 : Hid (Row w6 w.heap.size [.int .i64 0, .int .i64 0, .int .i64 0]) := HV5.out.far hg (by intro e; exact hne (Option.some.inj e).symm)
    have HQ6 : Hid (Row w6 q [.int .i64 x1, .int .i64 x2, .int .i64 x3]) := HQ5.out.far hg (by intro e; exact hgq (Option.some.inj e).symm)
    have HC6 : Hid (Cur w6 g a n cap) := hc
    clear hg hc HG5 HV5 HQ5 HC5
    have v0 := HV6.out.cell 0 _ rfl
    have v1 := HV6.out.cell 1 _ rfl
    have v2 := HV6.out.cell 2 _ rfl
    have fv0 := HV6.out.free 0
    have fv1 := HV6.out.free 1
    have fv2 := HV6.out.free 2
    have q0 := HQ6.out.cell 0 _ rfl
    have q1 := HQ6.out.cell 1 _ rfl
    have q2 := HQ6.out.cell 2 _ rfl
    have fq := HQ6.out.free 1
    go_wp2_with fail
    have T1 := Tip.set H.out ⟨HG6.out, HC6.out⟩ q 1 (by omega) (.int .i64 x6)
    have T2 := Tip.set H.out T1 w.heap.size 0 (Nat.le_refl _) (.int .i64 x1)
    have T3 := Tip.set H.out T2 w.heap.size 1 (Nat.le_refl _) (.int .i64 x6)
    have T4 := Tip.set H.out T3 w.heap.size 2 (Nat.le_refl _) (.int .i64 x3)
    exact bodyPost_ret (v := .agg #[.int .i64 x1, .int .i64 x6, .int .i64 x3]) (by simp [results, Tryz.results46, go_sem, *]) rfl ⟨_, _, _, rfl, T4.1, T4.2⟩
  · clear h50 h51
    go_wp2_with fail
    refine (l01Raw_c g a n cap _ HC5.out).mono ?_
    rintro e w6 ⟨x6, rfl, hg, hc⟩
    have HG6 : Hid (w.grownBy w6 (some g)) := Lib.grownBy_trans HG5.out hg
    have HV6 : Hid (Row w6 w.heap.size [.int .i64 0, .int .i64 0, .int .i64 0]) := HV5.out.far hg (by intro e; exact hne (Option.some.inj e).symm)
    have HQ6 : Hid (Row w6 q [.int .i64 x1, .int .i64 x2, .int .i64 x3]) := HQ5.out.far hg (by intro e; exact hgq (Option.some.inj e).symm)
    have HC6 : Hid (Cur w6 g a n cap) := hc
    clear hg hc HG5 HV5 HQ5 HC5
    have v0 := HV6.out.cell 0 _ rfl
    have v1 := HV6.out.cell 1 _ rfl
    have v2 := HV6.out.cell 2 _ rfl
    have fv0 := HV6.out.free 0
    have fv1 := HV6.out.free 1
    have fv2 := HV6.out.free 2
    have q0 := HQ6.out.cell 0 _ rfl
    have q1 := HQ6.out.cell 1 _ rfl
    have q2 := HQ6.out.cell 2 _ rfl
    have fq := HQ6.out.free 2
    go_wp2_with fail
    have T1 := Tip.set H.out ⟨HG6.out, HC6.out⟩ q 2 (by omega) (.int .i64 x6)
    have T2 := Tip.set H.out T1 w.heap.size 0 (Nat.le_refl _) (.int .i64 x1)
    have T3 := Tip.set H.out T2 w.heap.size 1 (Nat.le_refl _) (.int .i64 x2)
    have T4 := Tip.set H.out T3 w.heap.size 2 (Nat.le_refl _) (.int .i64 x6)
    exact bodyPost_ret (v := .agg #[.int .i64 x1, .int .i64 x2, .int .i64 x6]) (by simp [results, Tryz.results46, go_sem, *]) rfl ⟨_, _, _, rfl, T4.1, T4.2⟩
  · have v0 := HV5.out.cell 0 _ rfl
    have v1 := HV5.out.cell 1 _ rfl
    have v2 := HV5.out.cell 2 _ rfl
    have fv0 := HV5.out.free 0
    have fv1 := HV5.out.free 1
    have fv2 := HV5.out.free 2
    have q0 := HQ5.out.cell 0 _ rfl
    have q1 := HQ5.out.cell 1 _ rfl
    have q2 := HQ5.out.cell 2 _ rfl
    have e0 : (x5 == 0) = false := by simp; omega
    have e1 : (x5 == 1) = false := by simp; omega
    have e2 : (x5 == 2) = false := by simp; omega
    go_wp2_with fail
    have T2 := Tip.set H.out ⟨HG5.out, HC5.out⟩ w.heap.size 0 (Nat.le_refl _) (.int .i64 x1)
    have T3 := Tip.set H.out T2 w.heap.size 1 (Nat.le_refl _) (.int .i64 x2)
    have T4 := Tip.set H.out T3 w.heap.size 2 (Nat.le_refl _) (.int .i64 x3)
    exact bodyPost_ret (v := .agg #[.int .i64 x1, .int .i64 x2, .int .i64 x3]) (by simp [results, Tryz.results46, go_sem, *]) rfl ⟨_, _, _, rfl, T4.1, T4.2⟩
end Go.Proofs.YtejleghdgdbbnaaGreatDoor

namespace Go.Proofs.YtejleghdgdbbnaaGreatDoor
open Go.ChangeShapes Go.WideShapes Go.ChangeAt Go.RowKit

/-- The cursor over a code, new. -/
theorem l01New_c (a : Option Addr) (n cap : Nat) (w : World) (h : CodeIs w a n) :
    Calls Tryz.prog 11 #[.slice a n cap] w fun e w' => ∃ g : Nat, e = .returned (.pointer (some ⟨g, 0, none⟩)) ∧ w.heap.size ≤ g ∧ Below w.heap.size w w' ∧ Cur w' g a n cap := by
  have H : Hid (CodeIs w a n) := h
  have hsm := h.small
  clear h
  go_enter Tryz.func11, Tryz.ntmps11
  go_wp2_with fail
  go_loopw [3, 4] (fun hv i wr => ∃ (j : Nat) (x : Int), j ≤ n ∧ i = .int .i64 j ∧ hv = .int .i64 x ∧ 0 ≤ x ∧ x < 2147483648 ∧ Below w.heap.size w wr) (fun _ i _ => n - (intOf i).toNat)
  case atStart => exact ⟨0, 958001 + n, Nat.zero_le _, rfl, rfl, by omega, by omega, Below.refl _ _⟩
  case round =>
    obtain ⟨j, x, hj, rfl, rfl, hx0, hx1, hb⟩ := hrel
    have HB : Hid (Below w.heap.size w wr) := hb
    clear hb
    have HC : Hid (CodeIs wr a n) := H.out.below HB.out
    have fin : ∀ t : TypeId, Hid (wr.heap.size ≥ w.heap.size ∧ Below w.heap.size w (wr.alloc (.cells #[.slice a n cap, .int .i64 0, .int .i64 x] t)) ∧ Cur (wr.alloc (.cells #[.slice a n cap, .int .i64 0, .int .i64 x] t)) wr.heap.size a n cap) := fun t =>
      ⟨HB.out.size, HB.out.alloc HB.out.size _, 0, x, Nat.zero_le _, row_new wr [.slice a n cap, .int .i64 0, .int .i64 x] t, HC.out.below ((Below.refl _ _).alloc (Nat.le_refl _) _), fun p ha hn => by
        obtain ⟨p', _, ha', hp', _⟩ := HC.out.cell 0 hn
        rw [ha] at ha'
        cases ha'
        omega⟩
    by_cases h1 : j < n
    · have hi1 : (j : Int) < (n : Int) := by omega
      have hi0 : (0 : Int) ≤ (j : Int) := by omega
      by_cases h2 : j < 4000
      · have hi2 : (j : Int) < 4000 := by omega
        obtain ⟨p, c, rfl, hp, hc, hc0, hc1⟩ := HC.out.cell j h1
        have B1 := bits_and 1073741823 (by decide) (x * 151 + c + 7)
        go_wp2_with fail
        go_roundw
        case rel => exact ⟨j + 1, _, by omega, by go_num, rfl, B1.1, Int.lt_of_le_of_lt B1.2 (by decide), HB.out⟩
        case measure => simp [intOf]; omega
      · have hi2 : ¬ (j : Int) < 4000 := by omega
        have F := fin 55
        go_wp2_with fail
        go_ret
        exact ⟨_, rfl, F.out.1, F.out.2.1, F.out.2.2⟩
    · have hi1 : ¬ (j : Int) < (n : Int) := by omega
      have F := fin 55
      go_wp2_with fail
      go_ret
      exact ⟨_, rfl, F.out.1, F.out.2.1, F.out.2.2⟩

theorem below_grown {w W W' : World} {g : Nat} (h : Below w.heap.size w W) (hg : W.grownBy W' (some g)) (hge : w.heap.size ≤ g) : Below w.heap.size w W' := h.grown hg h.size (fun q hq => by cases hq; exact hge)

theorem far_ne {w w' : World} {g b : Nat} {xs : List Value} (h : Row w b xs) (hg : w.grownBy w' (some g)) (hne : b < g) : Row w' b xs := h.far hg (by intro e; have := Option.some.inj e; omega)

end Go.Proofs.YtejleghdgdbbnaaGreatDoor
