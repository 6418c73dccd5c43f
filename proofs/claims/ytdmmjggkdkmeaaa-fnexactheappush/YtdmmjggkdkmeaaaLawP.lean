/- Small facts that the laws over topologies share. -/
import Derived.Test.YtdmmjggkdkmeaaaTopP
import Derived.Test.YtdmmjggkdkmeaaaTopC
import Derived.OpenShut
import Derived.Carry
namespace Go.Proofs.Ytdmmjggkdkmeaaa
open Go.ChangeShapes Go.WideShapes Go.ChangeAt Go.RowKit Go.Joins

theorem own : ownKnob Try.prog.godebug = none := by kernel_rfl
theorem laidOutAll : laidOutB Try.prog = true := by kernel_rfl


end Go.Proofs.Ytdmmjggkdkmeaaa
