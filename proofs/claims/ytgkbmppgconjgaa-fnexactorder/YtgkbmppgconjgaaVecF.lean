/- VecAdd, VecSub, VecMin: the program's, each where it answers and where it doesn't. -/
import Derived.Test.YtgkbmppgconjgaaVecE
namespace Go.Proofs.Ytgkbmppgconjgaa
open Go.ChangeShapes Go.WideShapes Go.ChangeAt Go.RowKit

/-- The sums are there. -/
def addB (a b c x y z : Int) : Bool := vokB a b c && vokB x y z && vokB (a + x) (b + y) (c + z)
/-- The differences are there. -/
def subB (a b c x y z : Int) : Bool := vokB a b c && vokB x y z && vokB (a - x) (b - y) (c - z)
/-- Both are right. -/
def minB (a b c x y z : Int) : Bool := vokB a b c && vokB x y z && vokB (min a x) (min b y) (min c z)

theorem wrap_small {n : Int} (h0 : -9000000 ≤ n) (h1 : n ≤ 9000000) : wrap64 n = n := by unfold wrap64; omega
theorem wsum {a b c x y z : Int} (h1 : vokB a b c = true) (h2 : vokB x y z = true) : wrap64 (a + x) = a + x ∧ wrap64 (b + y) = b + y ∧ wrap64 (c + z) = c + z := by
  rw [vok_iff] at h1 h2
  exact ⟨wrap_small (by omega) (by omega), wrap_small (by omega) (by omega), wrap_small (by omega) (by omega)⟩
theorem wdifference {a b c x y z : Int} (h1 : vokB a b c = true) (h2 : vokB x y z = true) : wrap64 (a - x) = a - x ∧ wrap64 (b - y) = b - y ∧ wrap64 (c - z) = c - z := by
  rw [vok_iff] at h1 h2
  exact ⟨wrap_small (by omega) (by omega), wrap_small (by omega) (by omega), wrap_small (by omega) (by omega)⟩
theorem wlesser {a b c x y z : Int} (_h1 : vokB a b c = true) (_h2 : vokB x y z = true) : min a x = min a x ∧ min b y = min b y ∧ min c z = min c z := ⟨rfl, rfl, rfl⟩

end Go.Proofs.Ytgkbmppgconjgaa
