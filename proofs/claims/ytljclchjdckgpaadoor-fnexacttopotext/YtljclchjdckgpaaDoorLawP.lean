/- Small facts that the laws over topologies share. -/
import Derived.Test.YtljclchjdckgpaaDoorTopP
import Derived.Test.YtljclchjdckgpaaDoorTopC
import Derived.OpenShut
import Derived.Carry
namespace Go.Proofs.YtljclchjdckgpaaDoor
open Go.ChangeShapes Go.WideShapes Go.ChangeAt Go.RowKit Go.Joins

theorem own : ownKnob Tryd.prog.godebug = none := by kernel_rfl
theorem laidOutAll : laidOutB Tryd.prog = true := by kernel_rfl

theorem sz_yes {n m : Nat} (h : ¬ szT n m 1048576 < 0) : n ≤ 1048576 ∧ m ≤ 1048576 := by
  unfold szT at h
  split at h
  · omega
  · split at h
    · omega
    · omega

end Go.Proofs.YtljclchjdckgpaaDoor
