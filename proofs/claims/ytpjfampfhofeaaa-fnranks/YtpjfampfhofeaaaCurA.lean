/- The cursor of the draws: what it holds, and its next byte. -/
import Derived.Test.YtpjfampfhofeaaaPartsP
import Derived.Deep.QuietTactic
import Derived.BigQuiet
namespace Go.Proofs.Ytpjfampfhofeaaa
open Go.ChangeShapes Go.WideShapes Go.ChangeAt Go.RowKit

/-- A code of n bytes can be read. -/
structure CodeIs (w : World) (a : Option Addr) (n : Nat) : Prop where
  small : n ≤ 1048576
  cell : ∀ i, i < n → ∃ p x, a = some p ∧ p.block < w.heap.size ∧ w.cell? (p.add i) = some (.int .u8 x) ∧ 0 ≤ x ∧ x < 256

theorem grown_refl (w : World) (r : Option Nat) : w.grownBy w r := ⟨rfl, rfl, rfl, Nat.le_refl _, fun _ _ _ => rfl⟩

theorem CodeIs.grown {w w' : World} {a : Option Addr} {n g : Nat} (h : CodeIs w a n) (hg : w.grownBy w' (some g)) (hne : ∀ p, a = some p → 0 < n → p.block ≠ g) : CodeIs w' a n :=
  ⟨h.small, fun i hi => by
    obtain ⟨p, x, ha, hp, hc, h0, h1⟩ := h.cell i hi
    refine ⟨p, x, ha, Nat.lt_of_lt_of_le hp hg.size, ?_, h0, h1⟩
    have hb : (p.add i).block = p.block := block_add p i
    rw [World.cell?_of_block (a := p.add i) (hg.block _ (by rw [hb]; exact hp) (by rw [hb]; intro e; exact hne p ha (by omega) (Option.some.inj e)))]
    exact hc⟩

theorem drewN_grown (w : World) (n : Nat) (r : Option Nat) : w.grownBy (w.drewN n) r := ⟨rfl, rfl, rfl, Nat.le_refl _, fun _ _ _ => rfl⟩

theorem drewN_low (w : World) (n : Nat) : Below w.heap.size w (w.drewN n) := ⟨rfl, rfl, rfl, Nat.le_refl _, fun _ _ => rfl⟩

/-- The cursor lies in block g, over the code. -/
def Cur (w : World) (g : Nat) (a : Option Addr) (n cap : Nat) : Prop :=
  ∃ (i : Nat) (h : Int), i ≤ n ∧ Row w g [.slice a n cap, .int .i64 i, .int .i64 h] ∧ CodeIs w a n ∧ ∀ p, a = some p → 0 < n → p.block ≠ g

theorem bits_and (m : Nat) (hm : m < 4294967296) (x : Int) : 0 ≤ bits .and .i64 x m ∧ bits .and .i64 x m ≤ m := by
  have h1 : (BitVec.ofInt 64 x &&& BitVec.ofInt 64 (m : Int)).toNat ≤ m := by
    rw [BitVec.toNat_and]
    have h2 : (BitVec.ofInt 64 (m : Int)).toNat = m := by rw [BitVec.toNat_ofInt]; omega
    rw [h2]
    exact Nat.and_le_right
  show 0 ≤ IntKind.i64.wrap ((BitVec.ofInt 64 x &&& BitVec.ofInt 64 (m : Int)).toNat : Int) ∧ IntKind.i64.wrap ((BitVec.ofInt 64 x &&& BitVec.ofInt 64 (m : Int)).toNat : Int) ≤ m
  generalize (BitVec.ofInt 64 x &&& BitVec.ofInt 64 (m : Int)).toNat = k at h1
  have h3 : IntKind.i64.wrap (k : Int) = k := by
    rw [IntKind.wrap_i64]
    omega
  omega

theorem bits255 (x : Int) : 0 ≤ bits .and .i64 x 255 ∧ bits .and .i64 x 255 < 256 := by
  have h := bits_and 255 (by decide) x
  exact ⟨h.1, Int.lt_of_le_of_lt h.2 (by decide)⟩

set_option maxHeartbeats 1000000 in
theorem l01Byte_c (g : Nat) (a : Option Addr) (n cap : Nat) (w : World) (h : Cur w g a n cap) :
    Calls Try.prog 67 #[.pointer (some ⟨g, 0, none⟩)] w fun e w' => ∃ x : Int, e = .returned (.int .i64 x) ∧ 0 ≤ x ∧ x < 256 ∧ w.grownBy w' (some g) ∧ Cur w' g a n cap := by
  obtain ⟨i, h, hi, hr, hcode, hne⟩ := h
  have HR : Hid (Row w g [.slice a n cap, .int .i64 i, .int .i64 h]) := hr
  have HC : Hid (CodeIs w a n) := hcode
  have HN : Hid (∀ p, a = some p → 0 < n → p.block ≠ g) := hne
  have hsm := hcode.small
  have c0 : w.cell? ⟨g, 0, none⟩ = some (.slice a n cap) := hr.cell 0 _ rfl
  have c1 : w.cell? ⟨g, 1, none⟩ = some (.int .i64 i) := hr.cell 1 _ rfl
  have c2 : w.cell? ⟨g, 2, none⟩ = some (.int .i64 h) := hr.cell 2 _ rfl
  have f2 : w.frozen? ⟨g, 2, none⟩ = false := hr.free 2
  clear hr hcode hne
  go_enter Try.func67, Try.ntmps67
  go_wp2_with fail
  generalize wrap64 (wrap64 (h * 6364136223846793005) + 1442695040888963407) = h'
  go_quiet (fail)
  have B1 := bits_and 255 (by decide) (bits BinOp.xor IntKind.i64 (h' / 8589934592) (h' / 35184372088832))
  generalize bits BinOp.and IntKind.i64 (bits BinOp.xor IntKind.i64 (h' / 8589934592) (h' / 35184372088832)) ((255 : Nat) : Int) = y at B1
  have HR1 : Hid (Row ((w.setCell ⟨g, 2, none⟩ (.int .i64 h')).drewN nq) g [.slice a n cap, .int .i64 i, .int .i64 h']) := (HR.out.set 2 (by simp) (.int .i64 h')).below (drewN_low _ _)
  have HG1 : Hid (w.grownBy ((w.setCell ⟨g, 2, none⟩ (.int .i64 h')).drewN nq) (some g)) := Lib.grownBy_trans (Lib.grownBy_setB (grown_refl _ _) _ _) (drewN_grown _ _ _)
  have HC1 : Hid (CodeIs ((w.setCell ⟨g, 2, none⟩ (.int .i64 h')).drewN nq) a n) := HC.out.grown HG1.out HN.out
  generalize (w.setCell ⟨g, 2, none⟩ (.int .i64 h')).drewN nq = W1 at HR1 HG1 HC1
  clear c0 c1 c2 f2 HR HC
  have c0 : W1.cell? ⟨g, 0, none⟩ = some (.slice a n cap) := HR1.out.cell 0 _ rfl
  have c1 : W1.cell? ⟨g, 1, none⟩ = some (.int .i64 i) := HR1.out.cell 1 _ rfl
  have f1 : W1.frozen? ⟨g, 1, none⟩ = false := HR1.out.free 1
  by_cases hlt : i < n
  · have hi1 : (i : Int) < (n : Int) := by omega
    have hi0 : (0 : Int) ≤ (i : Int) := by omega
    obtain ⟨p, x, rfl, hp, hx, hx0, hx1⟩ := HC1.out.cell i hlt
    go_wp2_with fail
    go_quiet (fail)
    go_wp2_with fail
    go_quiet (fail)
    go_wp2_with fail
    rename_i m1 m2
    have B2 := bits255 (y + x)
    have HS : Hid (Row ((W1.drewN (m2 + nq)).setCell ⟨g, 1, none⟩ (.int .i64 ((i + 1 : Nat) : Int))) g [.slice (some p) n cap, .int .i64 ((i + 1 : Nat) : Int), .int .i64 h']) := (HR1.out.below (drewN_low _ _)).set 1 (by simp) _
    have HG2 : Hid (w.grownBy ((W1.drewN (m2 + nq)).setCell ⟨g, 1, none⟩ (.int .i64 ((i + 1 : Nat) : Int))) (some g)) := Lib.grownBy_setB (Lib.grownBy_trans HG1.out (drewN_grown _ _ _)) _ _
    have HC2 : Hid (CodeIs ((W1.drewN (m2 + nq)).setCell ⟨g, 1, none⟩ (.int .i64 ((i + 1 : Nat) : Int))) (some p) n) := HC1.out.grown (Lib.grownBy_setB (drewN_grown _ _ _) _ _) HN.out
    go_ret
    exact ⟨_, rfl, B2.1, B2.2, HG2.out, i + 1, h', by omega, HS.out, HC2.out, HN.out⟩
  · have hi1 : ¬ (i : Int) < (n : Int) := by omega
    go_wp2_with fail
    go_quiet (fail)
    go_wp2_with fail
    go_ret
    exact ⟨_, rfl, B1.1, by omega, Lib.grownBy_trans HG1.out (drewN_grown _ _ _), i, h', hi, HR1.out.below (drewN_low _ _), HC1.out.grown (drewN_grown _ _ (some g)) HN.out, HN.out⟩
end Go.Proofs.Ytpjfampfhofeaaa
