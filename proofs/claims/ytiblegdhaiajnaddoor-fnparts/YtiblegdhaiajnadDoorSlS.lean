/- Slices of strings: held against each other, marked, found marked. -/
import Derived.Test.YtiblegdhaiajnadDoorPartsP
import Derived.Test.YtiblegdhaiajnadDoorNumA
import Derived.Deep.DeepCutAuto
import Derived.Deep.QuietTactic
import Derived.BigQuiet
namespace Go.Proofs.YtiblegdhaiajnadDoor
open Go.ChangeShapes Go.WideShapes Go.ChangeAt Go.RowKit

theorem ret_bool {a b : Bool} (h : a = b) : Ending.returned (.bool a) = .returned (.bool b) := by rw [h]

theorem arr_eq {x y : List UInt8} : ((⟨x.toArray⟩ : ByteArray).toList == (⟨y.toArray⟩ : ByteArray).toList) = (x == y) := by
  rw [ByteArray.toList_eq, ByteArray.toList_eq]

/-- The mark of a number. -/
def mkL (k : Nat) : List UInt8 := 109 :: Lib.decDigits k

/-- Where the loop over the digits stands. -/
def mkInv (k0 j : Nat) (o : List UInt8) : Prop := (j = 0 ∧ o = Lib.decDigits k0) ∨ (0 < j ∧ Lib.decDigits k0 = Lib.decDigits j ++ o)

theorem mk_step {k0 j : Nat} {o : List UInt8} (hj : 0 < j) (h : mkInv k0 j o) : mkInv k0 (j / 10) (UInt8.ofNat (48 + j % 10) :: o) := by
  rcases h with ⟨h, _⟩ | ⟨_, h⟩
  · omega
  · by_cases hs : j < 10
    · left
      rw [h, Lib.decDigits_one hs, show j % 10 = j by omega]
      exact ⟨by omega, rfl⟩
    · right
      refine ⟨by omega, ?_⟩
      rw [h, Lib.decDigits, dif_neg hs, List.append_assoc]
      rfl

theorem mk_len {k0 j : Nat} {o : List UInt8} (hk : k0 < 18446744073709551616) (h : mkInv k0 j o) : o.length ≤ 20 := by
  have hl : (Lib.decDigits k0).length ≤ 20 := by rw [Lib.decDigits_length]; exact Lib.nDigits_le20 _ hk
  rcases h with ⟨_, h⟩ | ⟨_, h⟩
  · rw [h]; exact hl
  · rw [h, List.length_append] at hl; omega

theorem ba_of (s : ByteArray) : s = ⟨s.data.toList.toArray⟩ := by cases s; rfl

theorem add_ba (x y : ByteArray) (hx : x.size ≤ 1000) (hy : y.size ≤ 1000) : ∃ z : ByteArray, z.data.toList = x.data.toList ++ y.data.toList ∧ ∀ W, (Op.stringOp .add x y).run Tryd.prog W = .ok (.string z) W := by
  refine ⟨⟨(x.data.toList ++ y.data.toList).toArray⟩, rfl, fun W => ?_⟩
  have e := run_string_add_lists (P := Tryd.prog) W x.data.toList y.data.toList (by have : x.data.toList.length = x.size := rfl; omega) (by have : y.data.toList.length = y.size := rfl; omega)
  rw [← ba_of x, ← ba_of y] at e
  exact e

end Go.Proofs.YtiblegdhaiajnadDoor
