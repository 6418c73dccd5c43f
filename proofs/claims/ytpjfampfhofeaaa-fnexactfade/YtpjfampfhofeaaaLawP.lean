/- Small facts that the laws over topologies share. -/
import Derived.Test.YtpjfampfhofeaaaTopP
import Derived.Test.YtpjfampfhofeaaaTopC
import Derived.OpenShut
import Derived.Carry
namespace Go.Proofs.Ytpjfampfhofeaaa
open Go.ChangeShapes Go.WideShapes Go.ChangeAt Go.RowKit Go.Joins

theorem own : ownKnob Try.prog.godebug = none := by kernel_rfl
theorem laidOutAll : laidOutB Try.prog = true := by kernel_rfl


end Go.Proofs.Ytpjfampfhofeaaa
