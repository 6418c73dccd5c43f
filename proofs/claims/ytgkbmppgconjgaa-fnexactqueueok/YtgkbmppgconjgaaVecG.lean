/- VecAdd, VecSub, VecMin: the specification's, each where it answers and where it doesn't. -/
import Derived.Test.YtgkbmppgconjgaaVecF
namespace Go.Proofs.Ytgkbmppgconjgaa
open Go.ChangeShapes Go.WideShapes Go.ChangeAt Go.RowKit


theorem fit_sub (a b c x y z : Int) : fitB x y z a b c = subB a b c x y z := by
  rw [Bool.eq_iff_iff]
  simp only [fitB, subB, Bool.and_eq_true, vok_iff, nabB, decide_eq_true_eq]
  omega

end Go.Proofs.Ytgkbmppgconjgaa
