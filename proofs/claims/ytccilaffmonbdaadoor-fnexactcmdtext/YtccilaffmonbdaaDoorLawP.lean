/- Small facts that the laws over topologies share. -/
import Derived.Test.YtccilaffmonbdaaDoorTopP
import Derived.Test.YtccilaffmonbdaaDoorTopC
import Derived.OpenShut
import Derived.Carry
namespace Go.Proofs.YtccilaffmonbdaaDoor
open Go.ChangeShapes Go.WideShapes Go.ChangeAt Go.RowKit Go.Joins

theorem own : ownKnob Tryd.prog.godebug = none := by kernel_rfl
theorem laidOutAll : laidOutB Tryd.prog = true := by kernel_rfl


end Go.Proofs.YtccilaffmonbdaaDoor
