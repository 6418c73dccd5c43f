/- The decimal text of a number: the specification's. -/
import Derived.Test.YtpjfampfhofeaaaBase
import Derived.Lib.ItoaNum
import Derived.Lib.ItoaLen
import Derived.Laws.Concat
import Derived.Laws.IdiomStrings
namespace Go.Proofs.Ytpjfampfhofeaaa
open Go.ChangeShapes Go.WideShapes Go.ChangeAt Go.RowKit

/-- A time. -/
def timB (n : Int) : Bool := decide (0 ≤ n) && decide (n ≤ 1000000000)
/-- The decimal text of a time; the empty text of anything else. -/
def numL (n : Int) : List UInt8 := bif timB n then Lib.decDigits n.toNat else []

theorem tim_yes {n : Int} (h : timB n = true) : 0 ≤ n ∧ n ≤ 1000000000 := by simpa [timB] using h

/-- 'string([]byte{x})'. -/
theorem conv_one (b : Nat) (x : Int) (W : World) (hc : W.cell? ⟨b, 0, none⟩ = some (.int .u8 x)) (h0 : 0 ≤ x) (h1 : x < 256) :
    (convert 22 9 (.slice (some ⟨b, 0, none⟩) 1 1)).run Try.prog W = .ok (.string ⟨#[UInt8.ofNat x.toNat]⟩) W := by
  have e := run_convert_bytes_back (P := Try.prog) W 22 9 5 ⟨b, 0, none⟩ 1 [UInt8.ofNat x.toNat] Try.underlying22 Try.underlying5 Try.underlying9 (fun j hj => by
    obtain rfl : j = 0 := by simpa using hj
    rw [show (⟨b, 0, none⟩ : Addr).add 0 = ⟨b, 0, none⟩ from rfl, hc, List.getElem_cons_zero]
    have : ((UInt8.ofNat x.toNat).toNat : Int) = x := by simp; omega
    rw [this])
  exact e

/-- The last digit behind the others. -/
theorem digits_snoc (n : Int) (W : World) (h0 : 10 ≤ n) (h1 : n ≤ 1000000000) :
    (Op.stringOp .add ⟨(Lib.decDigits (n / 10).toNat).toArray⟩ ⟨#[UInt8.ofNat (48 + n % 10).toNat]⟩).run Try.prog W = .ok (.string ⟨(Lib.decDigits n.toNat).toArray⟩) W := by
  have hl : (Lib.decDigits (n / 10).toNat).length ≤ 20 := by rw [Lib.decDigits_length]; exact Lib.nDigits_le20 _ (by omega)
  have e : Lib.decDigits n.toNat = Lib.decDigits (n / 10).toNat ++ [UInt8.ofNat (48 + n % 10).toNat] := by
    rw [Lib.decDigits, dif_neg (by omega), show n.toNat / 10 = (n / 10).toNat by omega, show 48 + n.toNat % 10 = (48 + n % 10).toNat by omega]
  rw [e]
  exact run_string_add_lists W _ _ (by omega) (by simp)

end Go.Proofs.Ytpjfampfhofeaaa
