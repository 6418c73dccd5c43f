/- The contracts of the small functions on vectors: what each returns, and that nothing that was there has turned. -/
import Derived.Test.YtdmmjggkdkmeaaaBase
namespace Go.Proofs.Ytdmmjggkdkmeaaa
open Go.ChangeShapes Go.WideShapes Go.ChangeAt Go.RowKit

/-- An amount is right. -/
def resB (n : Int) : Bool := decide (0 ≤ n) && decide (n ≤ 1000000)
/-- The three are right. -/
def vokB (a b c : Int) : Bool := resB a && resB b && resB c
/-- None of the first three is above that of the second three. -/
def nabB (a b c x y z : Int) : Bool := decide (a ≤ x) && decide (b ≤ y) && decide (c ≤ z)

theorem res_yes {n : Int} (h : resB n = true) : 0 ≤ n ∧ n ≤ 1000000 := by
  simpa [resB] using h
theorem res_no {n : Int} (h : resB n = false) : n < 0 ∨ 1000000 < n := by
  simp [resB] at h; omega

end Go.Proofs.Ytdmmjggkdkmeaaa
