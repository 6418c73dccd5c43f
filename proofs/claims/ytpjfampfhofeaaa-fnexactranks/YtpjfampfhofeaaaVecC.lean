/- noneAbove and the face functions VecOk, VecFits. -/
import Derived.Test.YtpjfampfhofeaaaVecB
namespace Go.Proofs.Ytpjfampfhofeaaa
open Go.ChangeShapes Go.WideShapes Go.ChangeAt Go.RowKit

theorem min3 (a b c x y z : Int) : (min a x == a && (min b y == b && min c z == c)) = nabB a b c x y z := by
  rw [Bool.eq_iff_iff]; simp [nabB]; omega

theorem vok_nab (a b c : Int) : (nabB 0 0 0 a b c && nabB a b c 1000000 1000000 1000000) = vokB a b c := by
  rw [Bool.eq_iff_iff]; simp [nabB, vokB, resB]; omega

end Go.Proofs.Ytpjfampfhofeaaa
