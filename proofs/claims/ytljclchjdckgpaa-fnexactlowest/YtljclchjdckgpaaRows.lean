/-
  No cell of these rows narrows 'for every input' (looked for: loops, veiled, ifaces, maps, wideKeys, modest, calm, conditions, laid).
  DERIVED. THE GIVEN ROWS OF THIS SEAT. 7 by the template 'for every input the law returns true; each argument reads behind the call as it read before'; 0 by the template 'total and deterministic' (their statements: YtljclchjdckgpaaTotals.lean).
  GIVEN WITH THE SEED: the statements are not yours to turn. If you find one false, say at which input.
  Laid BY PROGRAM, IN A SANDBOX (cutbox-rows.mjs): the forced cells as the released guide's own fill.sh prints them over the translation b9e58c7a060a7461… (all of the seat's roots in one cut). By AI agents, Wed Nov 11 2026. No macro, syntax, notation, axiom, sorry.
-/
import Derived.Test.YtljclchjdckgpaaChecked
import GoSem.Claim
import GoSem.ClaimJoined
import GoSem.ClaimMapViews
import Derived.JoinedTies
import Derived.KernelRfl
namespace Go.Proofs.Ytljclchjdckgpaa
/- THE CELL 'sum', in the pinned program and in every row, IS THE sha256 OF THE DUMP (.gsa) THAT YtljclchjdckgpaaProg.lean LOADS. Nothing in Lean hashes anything: it is a label: what it is worth is what the hold of that sum in a sandbox is worth. -/
noncomputable def Try.pinned : Pinned := { name := "ytljclchjdckgpaa", sum := "b9e58c7a060a7461d7686c989b587e7c71180a74a52d987b8321bdf172802e0c", checked := Try.checked }
namespace Rows
def none {H : Type} : Left H := { results := [], args := [] }

/-- 'laws.FnTree': WHATEVER THE INPUT: true; the input reads as it did. -/
def fnTreeSpec : ChangeSpec := { name := "fnTree", fn := fun _ => fun
  | [d] => { results := [.lit (.bool true)], args := [d] }
  | _ => none }
def fnTreeRow : OpenClaim := { program := "ytljclchjdckgpaa", sum := "b9e58c7a060a7461d7686c989b587e7c71180a74a52d987b8321bdf172802e0c", func := "loop.example/g00454/laws.FnTree", spec := "fnTree", unfollowed := true, recurses := true, apart := false }
def FnTreeSaid : Prop := fnTreeRow.holds Try.pinned (OpenSpec.ofChange fnTreeSpec)

/-- ITS FALSE NEIGHBOUR: 'it returns false'. Refute it at one input. -/
def fnTreeWrong : ChangeSpec := { name := "fnTree", fn := fun _ => fun
  | [d] => { results := [.lit (.bool false)], args := [d] }
  | _ => none }
def FnTreeWrongFalsely : Prop := fnTreeRow.holds Try.pinned (OpenSpec.ofChange fnTreeWrong)

/-- 'laws.FnExactTopoOk': WHATEVER THE INPUT: true; the input reads as it did. -/
def fnExactTopoOkSpec : ChangeSpec := { name := "fnExactTopoOk", fn := fun _ => fun
  | [d] => { results := [.lit (.bool true)], args := [d] }
  | _ => none }
def fnExactTopoOkRow : OpenClaim := { program := "ytljclchjdckgpaa", sum := "b9e58c7a060a7461d7686c989b587e7c71180a74a52d987b8321bdf172802e0c", func := "loop.example/g00454/laws.FnExactTopoOk", spec := "fnExactTopoOk", unfollowed := true, recurses := true, apart := false }
def FnExactTopoOkSaid : Prop := fnExactTopoOkRow.holds Try.pinned (OpenSpec.ofChange fnExactTopoOkSpec)

/-- ITS FALSE NEIGHBOUR: 'it returns false'. Refute it at one input. -/
def fnExactTopoOkWrong : ChangeSpec := { name := "fnExactTopoOk", fn := fun _ => fun
  | [d] => { results := [.lit (.bool false)], args := [d] }
  | _ => none }
def FnExactTopoOkWrongFalsely : Prop := fnExactTopoOkRow.holds Try.pinned (OpenSpec.ofChange fnExactTopoOkWrong)

/-- 'laws.FnExactLevel': WHATEVER THE INPUT: true; the input reads as it did. -/
def fnExactLevelSpec : ChangeSpec := { name := "fnExactLevel", fn := fun _ => fun
  | [d1, d2] => { results := [.lit (.bool true)], args := [d1, d2] }
  | _ => none }
def fnExactLevelRow : OpenClaim := { program := "ytljclchjdckgpaa", sum := "b9e58c7a060a7461d7686c989b587e7c71180a74a52d987b8321bdf172802e0c", func := "loop.example/g00454/laws.FnExactLevel", spec := "fnExactLevel", unfollowed := true, recurses := true, apart := false }
def FnExactLevelSaid : Prop := fnExactLevelRow.holds Try.pinned (OpenSpec.ofChange fnExactLevelSpec)

/-- ITS FALSE NEIGHBOUR: 'it returns false'. Refute it at one input. -/
def fnExactLevelWrong : ChangeSpec := { name := "fnExactLevel", fn := fun _ => fun
  | [d1, d2] => { results := [.lit (.bool false)], args := [d1, d2] }
  | _ => none }
def FnExactLevelWrongFalsely : Prop := fnExactLevelRow.holds Try.pinned (OpenSpec.ofChange fnExactLevelWrong)

/-- 'laws.FnExactBelow': WHATEVER THE INPUT: true; the input reads as it did. -/
def fnExactBelowSpec : ChangeSpec := { name := "fnExactBelow", fn := fun _ => fun
  | [d1, d2] => { results := [.lit (.bool true)], args := [d1, d2] }
  | _ => none }
def fnExactBelowRow : OpenClaim := { program := "ytljclchjdckgpaa", sum := "b9e58c7a060a7461d7686c989b587e7c71180a74a52d987b8321bdf172802e0c", func := "loop.example/g00454/laws.FnExactBelow", spec := "fnExactBelow", unfollowed := true, recurses := true, apart := false }
def FnExactBelowSaid : Prop := fnExactBelowRow.holds Try.pinned (OpenSpec.ofChange fnExactBelowSpec)

/-- ITS FALSE NEIGHBOUR: 'it returns false'. Refute it at one input. -/
def fnExactBelowWrong : ChangeSpec := { name := "fnExactBelow", fn := fun _ => fun
  | [d1, d2] => { results := [.lit (.bool false)], args := [d1, d2] }
  | _ => none }
def FnExactBelowWrongFalsely : Prop := fnExactBelowRow.holds Try.pinned (OpenSpec.ofChange fnExactBelowWrong)

/-- 'laws.FnExactAbove': WHATEVER THE INPUT: true; the input reads as it did. -/
def fnExactAboveSpec : ChangeSpec := { name := "fnExactAbove", fn := fun _ => fun
  | [d1, d2] => { results := [.lit (.bool true)], args := [d1, d2] }
  | _ => none }
def fnExactAboveRow : OpenClaim := { program := "ytljclchjdckgpaa", sum := "b9e58c7a060a7461d7686c989b587e7c71180a74a52d987b8321bdf172802e0c", func := "loop.example/g00454/laws.FnExactAbove", spec := "fnExactAbove", unfollowed := true, recurses := true, apart := false }
def FnExactAboveSaid : Prop := fnExactAboveRow.holds Try.pinned (OpenSpec.ofChange fnExactAboveSpec)

/-- ITS FALSE NEIGHBOUR: 'it returns false'. Refute it at one input. -/
def fnExactAboveWrong : ChangeSpec := { name := "fnExactAbove", fn := fun _ => fun
  | [d1, d2] => { results := [.lit (.bool false)], args := [d1, d2] }
  | _ => none }
def FnExactAboveWrongFalsely : Prop := fnExactAboveRow.holds Try.pinned (OpenSpec.ofChange fnExactAboveWrong)

/-- 'laws.FnExactLowest': WHATEVER THE INPUT: true; the input reads as it did. -/
def fnExactLowestSpec : ChangeSpec := { name := "fnExactLowest", fn := fun _ => fun
  | [d1, d2] => { results := [.lit (.bool true)], args := [d1, d2] }
  | _ => none }
def fnExactLowestRow : OpenClaim := { program := "ytljclchjdckgpaa", sum := "b9e58c7a060a7461d7686c989b587e7c71180a74a52d987b8321bdf172802e0c", func := "loop.example/g00454/laws.FnExactLowest", spec := "fnExactLowest", unfollowed := true, recurses := true, apart := false }
def FnExactLowestSaid : Prop := fnExactLowestRow.holds Try.pinned (OpenSpec.ofChange fnExactLowestSpec)

/-- ITS FALSE NEIGHBOUR: 'it returns false'. Refute it at one input. -/
def fnExactLowestWrong : ChangeSpec := { name := "fnExactLowest", fn := fun _ => fun
  | [d1, d2] => { results := [.lit (.bool false)], args := [d1, d2] }
  | _ => none }
def FnExactLowestWrongFalsely : Prop := fnExactLowestRow.holds Try.pinned (OpenSpec.ofChange fnExactLowestWrong)

/-- 'laws.FnExactLeaves': WHATEVER THE INPUT: true; the input reads as it did. -/
def fnExactLeavesSpec : ChangeSpec := { name := "fnExactLeaves", fn := fun _ => fun
  | [d1, d2] => { results := [.lit (.bool true)], args := [d1, d2] }
  | _ => none }
def fnExactLeavesRow : OpenClaim := { program := "ytljclchjdckgpaa", sum := "b9e58c7a060a7461d7686c989b587e7c71180a74a52d987b8321bdf172802e0c", func := "loop.example/g00454/laws.FnExactLeaves", spec := "fnExactLeaves", unfollowed := true, recurses := true, apart := false }
def FnExactLeavesSaid : Prop := fnExactLeavesRow.holds Try.pinned (OpenSpec.ofChange fnExactLeavesSpec)

/-- ITS FALSE NEIGHBOUR: 'it returns false'. Refute it at one input. -/
def fnExactLeavesWrong : ChangeSpec := { name := "fnExactLeaves", fn := fun _ => fun
  | [d1, d2] => { results := [.lit (.bool false)], args := [d1, d2] }
  | _ => none }
def FnExactLeavesWrongFalsely : Prop := fnExactLeavesRow.holds Try.pinned (OpenSpec.ofChange fnExactLeavesWrong)

/- THE SECOND FORM. 'bulk': how many values and letters a reading holds, each counted each time it is reached (what is shared counts as often as it is met; a slice's spare places count too). A statement '..UptoSaid' is the law's where the arguments, and the package variables that the reading takes, are together of bulk at most 1048576: NARROWER than '..Said'. Prove '..Said' where nothing that the law and all that it calls make is longer than what came in: it says more and counts as full. Else prove '..UptoSaid'. A law counts once. -/
mutual
def uptoBulk {H : Type} : DataW H → Nat
  | .lit (.string bytes) => bytes.length + 1
  | .lit _ => 1
  | .nil => 1
  | .ptr d => uptoBulk d + 1
  | .slice elems spare => uptoBulkAll elems + uptoBulkAll spare + 1
  | .agg parts => uptoBulkAll parts + 1
  | .iface _ d => uptoBulk d + 1
  | .map entries => uptoBulkEntries entries + 1
  | .held _ => 1
def uptoBulkAll {H : Type} : List (DataW H) → Nat
  | [] => 0
  | d :: r => uptoBulk d + uptoBulkAll r
def uptoBulkEntries {H : Type} : List (Lit × DataW H) → Nat
  | [] => 0
  | x :: r => uptoBulkEntry x + uptoBulkEntries r
def uptoBulkEntry {H : Type} : Lit × DataW H → Nat
  | (.string bytes, d) => bytes.length + uptoBulk d + 1
  | (_, d) => uptoBulk d + 1
 end
def uptoSmall : (H : Type) → List (DataW H) → Bool := fun _ ds => decide (uptoBulkAll ds ≤ 1048576)
def OpenSpec.upto (s : _root_.Go.ChangeSpec) : _root_.Go.OpenSpec := { _root_.Go.OpenSpec.ofChange s with cond := some uptoSmall }

/-- 'laws.FnTree', WHERE WHAT IT READS IS OF BULK AT MOST 1048576: true; the input reads as it did. -/
def fnTreeUptoRow : OpenClaim := { program := "ytljclchjdckgpaa", sum := "b9e58c7a060a7461d7686c989b587e7c71180a74a52d987b8321bdf172802e0c", func := "loop.example/g00454/laws.FnTree", spec := "fnTree", unfollowed := true, recurses := true, apart := false, narrowed := true }
def FnTreeUptoSaid : Prop := fnTreeUptoRow.holds Try.pinned (OpenSpec.upto fnTreeSpec)

/-- 'laws.FnExactTopoOk', WHERE WHAT IT READS IS OF BULK AT MOST 1048576: true; the input reads as it did. -/
def fnExactTopoOkUptoRow : OpenClaim := { program := "ytljclchjdckgpaa", sum := "b9e58c7a060a7461d7686c989b587e7c71180a74a52d987b8321bdf172802e0c", func := "loop.example/g00454/laws.FnExactTopoOk", spec := "fnExactTopoOk", unfollowed := true, recurses := true, apart := false, narrowed := true }
def FnExactTopoOkUptoSaid : Prop := fnExactTopoOkUptoRow.holds Try.pinned (OpenSpec.upto fnExactTopoOkSpec)

/-- 'laws.FnExactLevel', WHERE WHAT IT READS IS OF BULK AT MOST 1048576: true; the input reads as it did. -/
def fnExactLevelUptoRow : OpenClaim := { program := "ytljclchjdckgpaa", sum := "b9e58c7a060a7461d7686c989b587e7c71180a74a52d987b8321bdf172802e0c", func := "loop.example/g00454/laws.FnExactLevel", spec := "fnExactLevel", unfollowed := true, recurses := true, apart := false, narrowed := true }
def FnExactLevelUptoSaid : Prop := fnExactLevelUptoRow.holds Try.pinned (OpenSpec.upto fnExactLevelSpec)

/-- 'laws.FnExactBelow', WHERE WHAT IT READS IS OF BULK AT MOST 1048576: true; the input reads as it did. -/
def fnExactBelowUptoRow : OpenClaim := { program := "ytljclchjdckgpaa", sum := "b9e58c7a060a7461d7686c989b587e7c71180a74a52d987b8321bdf172802e0c", func := "loop.example/g00454/laws.FnExactBelow", spec := "fnExactBelow", unfollowed := true, recurses := true, apart := false, narrowed := true }
def FnExactBelowUptoSaid : Prop := fnExactBelowUptoRow.holds Try.pinned (OpenSpec.upto fnExactBelowSpec)

/-- 'laws.FnExactAbove', WHERE WHAT IT READS IS OF BULK AT MOST 1048576: true; the input reads as it did. -/
def fnExactAboveUptoRow : OpenClaim := { program := "ytljclchjdckgpaa", sum := "b9e58c7a060a7461d7686c989b587e7c71180a74a52d987b8321bdf172802e0c", func := "loop.example/g00454/laws.FnExactAbove", spec := "fnExactAbove", unfollowed := true, recurses := true, apart := false, narrowed := true }
def FnExactAboveUptoSaid : Prop := fnExactAboveUptoRow.holds Try.pinned (OpenSpec.upto fnExactAboveSpec)

/-- 'laws.FnExactLowest', WHERE WHAT IT READS IS OF BULK AT MOST 1048576: true; the input reads as it did. -/
def fnExactLowestUptoRow : OpenClaim := { program := "ytljclchjdckgpaa", sum := "b9e58c7a060a7461d7686c989b587e7c71180a74a52d987b8321bdf172802e0c", func := "loop.example/g00454/laws.FnExactLowest", spec := "fnExactLowest", unfollowed := true, recurses := true, apart := false, narrowed := true }
def FnExactLowestUptoSaid : Prop := fnExactLowestUptoRow.holds Try.pinned (OpenSpec.upto fnExactLowestSpec)

/-- 'laws.FnExactLeaves', WHERE WHAT IT READS IS OF BULK AT MOST 1048576: true; the input reads as it did. -/
def fnExactLeavesUptoRow : OpenClaim := { program := "ytljclchjdckgpaa", sum := "b9e58c7a060a7461d7686c989b587e7c71180a74a52d987b8321bdf172802e0c", func := "loop.example/g00454/laws.FnExactLeaves", spec := "fnExactLeaves", unfollowed := true, recurses := true, apart := false, narrowed := true }
def FnExactLeavesUptoSaid : Prop := fnExactLeavesUptoRow.holds Try.pinned (OpenSpec.upto fnExactLeavesSpec)

end Rows
end Go.Proofs.Ytljclchjdckgpaa
