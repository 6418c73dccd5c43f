/- Small facts that the laws over topologies share. -/
import Derived.Test.YtmpkfcgpdbkjdaaTopP
import Derived.Test.YtmpkfcgpdbkjdaaTopC
import Derived.OpenShut
import Derived.Carry
namespace Go.Proofs.Ytmpkfcgpdbkjdaa
open Go.ChangeShapes Go.WideShapes Go.ChangeAt Go.RowKit Go.Joins

theorem own : ownKnob Try.prog.godebug = none := by kernel_rfl
theorem laidOutAll : laidOutB Try.prog = true := by kernel_rfl

theorem sz_yes {n m : Nat} (h : ¬ szT n m 1048576 < 0) : n ≤ 1048576 ∧ m ≤ 1048576 := by
  unfold szT at h
  split at h
  · omega
  · split at h
    · omega
    · omega

end Go.Proofs.Ytmpkfcgpdbkjdaa
