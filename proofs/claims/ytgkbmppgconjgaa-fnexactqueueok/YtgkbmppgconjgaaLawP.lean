/- Small facts that the laws over topologies share. -/
import Derived.Test.YtgkbmppgconjgaaTopP
import Derived.Test.YtgkbmppgconjgaaTopC
import Derived.OpenShut
import Derived.Carry
namespace Go.Proofs.Ytgkbmppgconjgaa
open Go.ChangeShapes Go.WideShapes Go.ChangeAt Go.RowKit Go.Joins

theorem own : ownKnob Try.prog.godebug = none := by kernel_rfl
theorem laidOutAll : laidOutB Try.prog = true := by kernel_rfl


end Go.Proofs.Ytgkbmppgconjgaa
