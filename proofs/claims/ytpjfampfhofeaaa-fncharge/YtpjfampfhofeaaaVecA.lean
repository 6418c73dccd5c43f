/- The contracts of the small functions on vectors: what each returns, and that nothing that was there has turned. -/
import Derived.Test.YtpjfampfhofeaaaBase
namespace Go.Proofs.Ytpjfampfhofeaaa
open Go.ChangeShapes Go.WideShapes Go.ChangeAt Go.RowKit

/-- An amount is right. -/
def resB (n : Int) : Bool := decide (0 ≤ n) && decide (n ≤ 1000000)
/-- The three are right. -/
def vokB (a b c : Int) : Bool := resB a && resB b && resB c
/-- None of the first three is above that of the second three. -/
def nabB (a b c x y z : Int) : Bool := decide (a ≤ x) && decide (b ≤ y) && decide (c ≤ z)

theorem res_yes {n : Int} (h : resB n = true) : 0 ≤ n ∧ n ≤ 1000000 := by
  simpa [resB] using h
theorem res_no {n : Int} (h : resB n = false) : n < 0 ∨ 1000000 < n := by
  simp [resB] at h; omega

theorem l01Min_c (x y : Int) (w : World) :
    Calls Try.prog 50 #[.int .i64 x, .int .i64 y] w fun e w' => e = .returned (.int .i64 (min x y)) ∧ w' = w := by
  go_enter Try.func50, Try.ntmps50
  go_wp2
  all_goals (go_ret; exact ⟨by simp; omega, rfl⟩)


end Go.Proofs.Ytpjfampfhofeaaa
