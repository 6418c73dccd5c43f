/- Slices of strings: held against each other, marked, found marked. -/
import Derived.Test.YtpjfampfhofeaaaPartsP
import Derived.Test.YtpjfampfhofeaaaNumA
import Derived.Deep.DeepCutAuto
import Derived.Deep.QuietTactic
import Derived.BigQuiet
namespace Go.Proofs.Ytpjfampfhofeaaa
open Go.ChangeShapes Go.WideShapes Go.ChangeAt Go.RowKit

theorem ret_bool {a b : Bool} (h : a = b) : Ending.returned (.bool a) = .returned (.bool b) := by rw [h]

theorem arr_eq {x y : List UInt8} : ((⟨x.toArray⟩ : ByteArray).toList == (⟨y.toArray⟩ : ByteArray).toList) = (x == y) := by
  rw [ByteArray.toList_eq, ByteArray.toList_eq]

/-- The mark of a number. -/
def mkL (k : Nat) : List UInt8 := 109 :: Lib.decDigits k

/-- Where the loop over the digits stands. -/
def mkInv (k0 j : Nat) (o : List UInt8) : Prop := (j = 0 ∧ o = Lib.decDigits k0) ∨ (0 < j ∧ Lib.decDigits k0 = Lib.decDigits j ++ o)

theorem mk_step {k0 j : Nat} {o : List UInt8} (hj : 0 < j) (h : mkInv k0 j o) : mkInv k0 (j / 10) (UInt8.ofNat (48 + j % 10) :: o) := by
  rcases h with ⟨h, _⟩ | ⟨_, h⟩
  · omega
  · by_cases hs : j < 10
    · left
      rw [h, Lib.decDigits_one hs, show j % 10 = j by omega]
      exact ⟨by omega, rfl⟩
    · right
      refine ⟨by omega, ?_⟩
      rw [h, Lib.decDigits, dif_neg hs, List.append_assoc]
      rfl

theorem mk_len {k0 j : Nat} {o : List UInt8} (hk : k0 < 18446744073709551616) (h : mkInv k0 j o) : o.length ≤ 20 := by
  have hl : (Lib.decDigits k0).length ≤ 20 := by rw [Lib.decDigits_length]; exact Lib.nDigits_le20 _ hk
  rcases h with ⟨_, h⟩ | ⟨_, h⟩
  · rw [h]; exact hl
  · rw [h, List.length_append] at hl; omega

theorem ba_of (s : ByteArray) : s = ⟨s.data.toList.toArray⟩ := by cases s; rfl

theorem add_ba (x y : ByteArray) (hx : x.size ≤ 1000) (hy : y.size ≤ 1000) : ∃ z : ByteArray, z.data.toList = x.data.toList ++ y.data.toList ∧ ∀ W, (Op.stringOp .add x y).run Try.prog W = .ok (.string z) W := by
  refine ⟨⟨(x.data.toList ++ y.data.toList).toArray⟩, rfl, fun W => ?_⟩
  have e := run_string_add_lists (P := Try.prog) W x.data.toList y.data.toList (by have : x.data.toList.length = x.size := rfl; omega) (by have : y.data.toList.length = y.size := rfl; omega)
  rw [← ba_of x, ← ba_of y] at e
  exact e

set_option maxHeartbeats 1000000 in
theorem markText_c (k0 : Nat) (h1 : 1 ≤ k0) (h2 : k0 ≤ 4294967296) (w : World) :
    Calls Try.prog 59 #[.int .i64 k0] w fun e w' => e = .returned (.string ⟨(mkL k0).toArray⟩) ∧ Below w.heap.size w w' := by
  go_enter Try.func59, Try.ntmps59
  go_wp2_with fail
  go_loopw [0, 3] (fun i o wr => ∃ (a : Int) (so : ByteArray), 0 ≤ a ∧ a ≤ k0 ∧ i = .int .i64 a ∧ o = .string so ∧ mkInv k0 a.toNat so.data.toList ∧ Below w.heap.size w wr) (fun i _ _ => (intOf i).toNat)
  case atStart => exact ⟨k0, ⟨#[]⟩, by omega, by omega, rfl, rfl, Or.inr ⟨by omega, by simp⟩, Below.refl _ _⟩
  case round =>
    obtain ⟨a, so, ha0, ha1, rfl, rfl, hinv, hb⟩ := hrel
    have Hi : Hid (mkInv k0 a.toNat so.data.toList) := hinv
    have HB : Hid (Below w.heap.size w wr) := hb
    have hsz : so.size ≤ 20 := by have := mk_len (by omega) hinv; exact this
    have hbig : a ≤ 4294967296 := by omega
    clear hinv hb
    by_cases hlt : 0 < a
    · have hr0 : 0 ≤ a % 10 := by omega
      have hr1 : a % 10 < 10 := by omega
      have hcv := conv_one wr.heap.size (48 + a % 10) (wr.alloc (.cells #[.int .u8 (48 + a % 10)] 5)) (by simp) (by omega) (by omega)
      obtain ⟨z, hz, hadd⟩ := add_ba ⟨#[UInt8.ofNat (48 + a % 10).toNat]⟩ so (by simp [ByteArray.size]) (by omega)
      have Hz : Hid (z.data.toList = UInt8.ofNat (48 + a.toNat % 10) :: so.data.toList) := by
        show _ = _
        rw [hz]
        have : (48 + a % 10).toNat = 48 + a.toNat % 10 := by omega
        rw [this]
        rfl
      clear hz
      go_wp2_with fail
      go_roundw
      case rel => exact ⟨a / 10, z, by omega, by omega, rfl, rfl, by rw [Hz.out, show (a / 10).toNat = a.toNat / 10 by omega]; exact mk_step (by omega) Hi.out, behind_alloc HB.out _⟩
      case measure => simp [intOf]; omega
    · obtain ⟨z, hz, hadd⟩ := add_ba ⟨#[109]⟩ so (by decide) (by omega)
      have Hz : Hid (z = ⟨(mkL k0).toArray⟩) := by
        show _ = _
        have ho : so.data.toList = Lib.decDigits k0 := by
          rcases Hi.out with ⟨_, h⟩ | ⟨h, _⟩
          · exact h
          · omega
        rw [ba_of z, hz, ho]
        rfl
      clear hz Hi
      go_wp2_with fail
      go_ret
      exact ⟨by rw [← Hz.out]; rfl, HB.out⟩
end Go.Proofs.Ytpjfampfhofeaaa
