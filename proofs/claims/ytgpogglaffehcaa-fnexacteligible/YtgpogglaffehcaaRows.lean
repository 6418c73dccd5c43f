/-
  No cell of these rows narrows 'for every input' (looked for: loops, veiled, ifaces, maps, wideKeys, modest, calm, conditions, laid).
  DERIVED. THE GIVEN ROWS OF THIS SEAT. 9 by the template 'for every input the law returns true; each argument reads behind the call as it read before'; 0 by the template 'total and deterministic' (their statements: YtgpogglaffehcaaTotals.lean).
  GIVEN WITH THE SEED: the statements are not yours to turn. If you find one false, say at which input.
  Laid BY PROGRAM, IN A SANDBOX (cutbox-rows.mjs): the forced cells as the released guide's own fill.sh prints them over the translation c465d4cde0376cd4… (all of the seat's roots in one cut). By AI agents, Wed Nov 11 2026. No macro, syntax, notation, axiom, sorry.
-/
import Derived.Test.YtgpogglaffehcaaChecked
import GoSem.Claim
import GoSem.ClaimJoined
import GoSem.ClaimMapViews
import Derived.JoinedTies
import Derived.KernelRfl
namespace Go.Proofs.Ytgpogglaffehcaa
/- THE CELL 'sum', in the pinned program and in every row, IS THE sha256 OF THE DUMP (.gsa) THAT YtgpogglaffehcaaProg.lean LOADS. Nothing in Lean hashes anything: it is a label: what it is worth is what the hold of that sum in a sandbox is worth. -/
noncomputable def Try.pinned : Pinned := { name := "ytgpogglaffehcaa", sum := "c465d4cde0376cd49e5261024e3d4cb1e6466a650208961876df5a7f4f3fafdf", checked := Try.checked }
namespace Rows
def none {H : Type} : Left H := { results := [], args := [] }

/-- 'laws.FnProf': WHATEVER THE INPUT: true; the input reads as it did. -/
def fnProfSpec : ChangeSpec := { name := "fnProf", fn := fun _ => fun
  | [d] => { results := [.lit (.bool true)], args := [d] }
  | _ => none }
def fnProfRow : OpenClaim := { program := "ytgpogglaffehcaa", sum := "c465d4cde0376cd49e5261024e3d4cb1e6466a650208961876df5a7f4f3fafdf", func := "loop.example/g00454/laws.FnProf", spec := "fnProf", unfollowed := true, recurses := true, apart := false }
def FnProfSaid : Prop := fnProfRow.holds Try.pinned (OpenSpec.ofChange fnProfSpec)

/-- ITS FALSE NEIGHBOUR: 'it returns false'. Refute it at one input. -/
def fnProfWrong : ChangeSpec := { name := "fnProf", fn := fun _ => fun
  | [d] => { results := [.lit (.bool false)], args := [d] }
  | _ => none }
def FnProfWrongFalsely : Prop := fnProfRow.holds Try.pinned (OpenSpec.ofChange fnProfWrong)

/-- 'laws.FnMin': WHATEVER THE INPUT: true; the input reads as it did. -/
def fnMinSpec : ChangeSpec := { name := "fnMin", fn := fun _ => fun
  | [d] => { results := [.lit (.bool true)], args := [d] }
  | _ => none }
def fnMinRow : OpenClaim := { program := "ytgpogglaffehcaa", sum := "c465d4cde0376cd49e5261024e3d4cb1e6466a650208961876df5a7f4f3fafdf", func := "loop.example/g00454/laws.FnMin", spec := "fnMin", unfollowed := true, recurses := true, apart := false }
def FnMinSaid : Prop := fnMinRow.holds Try.pinned (OpenSpec.ofChange fnMinSpec)

/-- ITS FALSE NEIGHBOUR: 'it returns false'. Refute it at one input. -/
def fnMinWrong : ChangeSpec := { name := "fnMin", fn := fun _ => fun
  | [d] => { results := [.lit (.bool false)], args := [d] }
  | _ => none }
def FnMinWrongFalsely : Prop := fnMinRow.holds Try.pinned (OpenSpec.ofChange fnMinWrong)

/-- 'laws.FnCut': WHATEVER THE INPUT: true; the input reads as it did. -/
def fnCutSpec : ChangeSpec := { name := "fnCut", fn := fun _ => fun
  | [d] => { results := [.lit (.bool true)], args := [d] }
  | _ => none }
def fnCutRow : OpenClaim := { program := "ytgpogglaffehcaa", sum := "c465d4cde0376cd49e5261024e3d4cb1e6466a650208961876df5a7f4f3fafdf", func := "loop.example/g00454/laws.FnCut", spec := "fnCut", unfollowed := true, recurses := true, apart := false }
def FnCutSaid : Prop := fnCutRow.holds Try.pinned (OpenSpec.ofChange fnCutSpec)

/-- ITS FALSE NEIGHBOUR: 'it returns false'. Refute it at one input. -/
def fnCutWrong : ChangeSpec := { name := "fnCut", fn := fun _ => fun
  | [d] => { results := [.lit (.bool false)], args := [d] }
  | _ => none }
def FnCutWrongFalsely : Prop := fnCutRow.holds Try.pinned (OpenSpec.ofChange fnCutWrong)

/-- 'laws.FnExactProfTake': WHATEVER THE INPUT: true; the input reads as it did. -/
def fnExactProfTakeSpec : ChangeSpec := { name := "fnExactProfTake", fn := fun _ => fun
  | [d1, d2, d3, d4] => { results := [.lit (.bool true)], args := [d1, d2, d3, d4] }
  | _ => none }
def fnExactProfTakeRow : OpenClaim := { program := "ytgpogglaffehcaa", sum := "c465d4cde0376cd49e5261024e3d4cb1e6466a650208961876df5a7f4f3fafdf", func := "loop.example/g00454/laws.FnExactProfTake", spec := "fnExactProfTake", unfollowed := true, recurses := true, apart := false }
def FnExactProfTakeSaid : Prop := fnExactProfTakeRow.holds Try.pinned (OpenSpec.ofChange fnExactProfTakeSpec)

/-- ITS FALSE NEIGHBOUR: 'it returns false'. Refute it at one input. -/
def fnExactProfTakeWrong : ChangeSpec := { name := "fnExactProfTake", fn := fun _ => fun
  | [d1, d2, d3, d4] => { results := [.lit (.bool false)], args := [d1, d2, d3, d4] }
  | _ => none }
def FnExactProfTakeWrongFalsely : Prop := fnExactProfTakeRow.holds Try.pinned (OpenSpec.ofChange fnExactProfTakeWrong)

/-- 'laws.FnExactProfGive': WHATEVER THE INPUT: true; the input reads as it did. -/
def fnExactProfGiveSpec : ChangeSpec := { name := "fnExactProfGive", fn := fun _ => fun
  | [d1, d2, d3, d4] => { results := [.lit (.bool true)], args := [d1, d2, d3, d4] }
  | _ => none }
def fnExactProfGiveRow : OpenClaim := { program := "ytgpogglaffehcaa", sum := "c465d4cde0376cd49e5261024e3d4cb1e6466a650208961876df5a7f4f3fafdf", func := "loop.example/g00454/laws.FnExactProfGive", spec := "fnExactProfGive", unfollowed := true, recurses := true, apart := false }
def FnExactProfGiveSaid : Prop := fnExactProfGiveRow.holds Try.pinned (OpenSpec.ofChange fnExactProfGiveSpec)

/-- ITS FALSE NEIGHBOUR: 'it returns false'. Refute it at one input. -/
def fnExactProfGiveWrong : ChangeSpec := { name := "fnExactProfGive", fn := fun _ => fun
  | [d1, d2, d3, d4] => { results := [.lit (.bool false)], args := [d1, d2, d3, d4] }
  | _ => none }
def FnExactProfGiveWrongFalsely : Prop := fnExactProfGiveRow.holds Try.pinned (OpenSpec.ofChange fnExactProfGiveWrong)

/-- 'laws.FnExactJobOk': WHATEVER THE INPUT: true; the input reads as it did. -/
def fnExactJobOkSpec : ChangeSpec := { name := "fnExactJobOk", fn := fun _ => fun
  | [d] => { results := [.lit (.bool true)], args := [d] }
  | _ => none }
def fnExactJobOkRow : OpenClaim := { program := "ytgpogglaffehcaa", sum := "c465d4cde0376cd49e5261024e3d4cb1e6466a650208961876df5a7f4f3fafdf", func := "loop.example/g00454/laws.FnExactJobOk", spec := "fnExactJobOk", unfollowed := true, recurses := true, apart := false }
def FnExactJobOkSaid : Prop := fnExactJobOkRow.holds Try.pinned (OpenSpec.ofChange fnExactJobOkSpec)

/-- ITS FALSE NEIGHBOUR: 'it returns false'. Refute it at one input. -/
def fnExactJobOkWrong : ChangeSpec := { name := "fnExactJobOk", fn := fun _ => fun
  | [d] => { results := [.lit (.bool false)], args := [d] }
  | _ => none }
def FnExactJobOkWrongFalsely : Prop := fnExactJobOkRow.holds Try.pinned (OpenSpec.ofChange fnExactJobOkWrong)

/-- 'laws.FnExactRoomOk': WHATEVER THE INPUT: true; the input reads as it did. -/
def fnExactRoomOkSpec : ChangeSpec := { name := "fnExactRoomOk", fn := fun _ => fun
  | [d] => { results := [.lit (.bool true)], args := [d] }
  | _ => none }
def fnExactRoomOkRow : OpenClaim := { program := "ytgpogglaffehcaa", sum := "c465d4cde0376cd49e5261024e3d4cb1e6466a650208961876df5a7f4f3fafdf", func := "loop.example/g00454/laws.FnExactRoomOk", spec := "fnExactRoomOk", unfollowed := true, recurses := true, apart := false }
def FnExactRoomOkSaid : Prop := fnExactRoomOkRow.holds Try.pinned (OpenSpec.ofChange fnExactRoomOkSpec)

/-- ITS FALSE NEIGHBOUR: 'it returns false'. Refute it at one input. -/
def fnExactRoomOkWrong : ChangeSpec := { name := "fnExactRoomOk", fn := fun _ => fun
  | [d] => { results := [.lit (.bool false)], args := [d] }
  | _ => none }
def FnExactRoomOkWrongFalsely : Prop := fnExactRoomOkRow.holds Try.pinned (OpenSpec.ofChange fnExactRoomOkWrong)

/-- 'laws.FnExactEligible': WHATEVER THE INPUT: true; the input reads as it did. -/
def fnExactEligibleSpec : ChangeSpec := { name := "fnExactEligible", fn := fun _ => fun
  | [d1, d2, d3, d4] => { results := [.lit (.bool true)], args := [d1, d2, d3, d4] }
  | _ => none }
def fnExactEligibleRow : OpenClaim := { program := "ytgpogglaffehcaa", sum := "c465d4cde0376cd49e5261024e3d4cb1e6466a650208961876df5a7f4f3fafdf", func := "loop.example/g00454/laws.FnExactEligible", spec := "fnExactEligible", unfollowed := true, recurses := true, apart := false }
def FnExactEligibleSaid : Prop := fnExactEligibleRow.holds Try.pinned (OpenSpec.ofChange fnExactEligibleSpec)

/-- ITS FALSE NEIGHBOUR: 'it returns false'. Refute it at one input. -/
def fnExactEligibleWrong : ChangeSpec := { name := "fnExactEligible", fn := fun _ => fun
  | [d1, d2, d3, d4] => { results := [.lit (.bool false)], args := [d1, d2, d3, d4] }
  | _ => none }
def FnExactEligibleWrongFalsely : Prop := fnExactEligibleRow.holds Try.pinned (OpenSpec.ofChange fnExactEligibleWrong)

/-- 'laws.FnExactChoose': WHATEVER THE INPUT: true; the input reads as it did. -/
def fnExactChooseSpec : ChangeSpec := { name := "fnExactChoose", fn := fun _ => fun
  | [d1, d2, d3, d4] => { results := [.lit (.bool true)], args := [d1, d2, d3, d4] }
  | _ => none }
def fnExactChooseRow : OpenClaim := { program := "ytgpogglaffehcaa", sum := "c465d4cde0376cd49e5261024e3d4cb1e6466a650208961876df5a7f4f3fafdf", func := "loop.example/g00454/laws.FnExactChoose", spec := "fnExactChoose", unfollowed := true, recurses := true, apart := false }
def FnExactChooseSaid : Prop := fnExactChooseRow.holds Try.pinned (OpenSpec.ofChange fnExactChooseSpec)

/-- ITS FALSE NEIGHBOUR: 'it returns false'. Refute it at one input. -/
def fnExactChooseWrong : ChangeSpec := { name := "fnExactChoose", fn := fun _ => fun
  | [d1, d2, d3, d4] => { results := [.lit (.bool false)], args := [d1, d2, d3, d4] }
  | _ => none }
def FnExactChooseWrongFalsely : Prop := fnExactChooseRow.holds Try.pinned (OpenSpec.ofChange fnExactChooseWrong)

/- THE SECOND FORM. 'bulk': how many values and letters a reading holds, each counted each time it is reached (what is shared counts as often as it is met; a slice's spare places count too). A statement '..UptoSaid' is the law's where the arguments, and the package variables that the reading takes, are together of bulk at most 1048576: NARROWER than '..Said'. Prove '..Said' where nothing that the law and all that it calls make is longer than what came in: it says more and counts as full. Else prove '..UptoSaid'. A law counts once. -/
mutual
def uptoBulk {H : Type} : DataW H → Nat
  | .lit (.string bytes) => bytes.length + 1
  | .lit _ => 1
  | .nil => 1
  | .ptr d => uptoBulk d + 1
  | .slice elems spare => uptoBulkAll elems + uptoBulkAll spare + 1
  | .agg parts => uptoBulkAll parts + 1
  | .iface _ d => uptoBulk d + 1
  | .map entries => uptoBulkEntries entries + 1
  | .held _ => 1
def uptoBulkAll {H : Type} : List (DataW H) → Nat
  | [] => 0
  | d :: r => uptoBulk d + uptoBulkAll r
def uptoBulkEntries {H : Type} : List (Lit × DataW H) → Nat
  | [] => 0
  | x :: r => uptoBulkEntry x + uptoBulkEntries r
def uptoBulkEntry {H : Type} : Lit × DataW H → Nat
  | (.string bytes, d) => bytes.length + uptoBulk d + 1
  | (_, d) => uptoBulk d + 1
 end
def uptoSmall : (H : Type) → List (DataW H) → Bool := fun _ ds => decide (uptoBulkAll ds ≤ 1048576)
def OpenSpec.upto (s : _root_.Go.ChangeSpec) : _root_.Go.OpenSpec := { _root_.Go.OpenSpec.ofChange s with cond := some uptoSmall }

/-- 'laws.FnProf', WHERE WHAT IT READS IS OF BULK AT MOST 1048576: true; the input reads as it did. -/
def fnProfUptoRow : OpenClaim := { program := "ytgpogglaffehcaa", sum := "c465d4cde0376cd49e5261024e3d4cb1e6466a650208961876df5a7f4f3fafdf", func := "loop.example/g00454/laws.FnProf", spec := "fnProf", unfollowed := true, recurses := true, apart := false, narrowed := true }
def FnProfUptoSaid : Prop := fnProfUptoRow.holds Try.pinned (OpenSpec.upto fnProfSpec)

/-- 'laws.FnMin', WHERE WHAT IT READS IS OF BULK AT MOST 1048576: true; the input reads as it did. -/
def fnMinUptoRow : OpenClaim := { program := "ytgpogglaffehcaa", sum := "c465d4cde0376cd49e5261024e3d4cb1e6466a650208961876df5a7f4f3fafdf", func := "loop.example/g00454/laws.FnMin", spec := "fnMin", unfollowed := true, recurses := true, apart := false, narrowed := true }
def FnMinUptoSaid : Prop := fnMinUptoRow.holds Try.pinned (OpenSpec.upto fnMinSpec)

/-- 'laws.FnCut', WHERE WHAT IT READS IS OF BULK AT MOST 1048576: true; the input reads as it did. -/
def fnCutUptoRow : OpenClaim := { program := "ytgpogglaffehcaa", sum := "c465d4cde0376cd49e5261024e3d4cb1e6466a650208961876df5a7f4f3fafdf", func := "loop.example/g00454/laws.FnCut", spec := "fnCut", unfollowed := true, recurses := true, apart := false, narrowed := true }
def FnCutUptoSaid : Prop := fnCutUptoRow.holds Try.pinned (OpenSpec.upto fnCutSpec)

/-- 'laws.FnExactProfTake', WHERE WHAT IT READS IS OF BULK AT MOST 1048576: true; the input reads as it did. -/
def fnExactProfTakeUptoRow : OpenClaim := { program := "ytgpogglaffehcaa", sum := "c465d4cde0376cd49e5261024e3d4cb1e6466a650208961876df5a7f4f3fafdf", func := "loop.example/g00454/laws.FnExactProfTake", spec := "fnExactProfTake", unfollowed := true, recurses := true, apart := false, narrowed := true }
def FnExactProfTakeUptoSaid : Prop := fnExactProfTakeUptoRow.holds Try.pinned (OpenSpec.upto fnExactProfTakeSpec)

/-- 'laws.FnExactProfGive', WHERE WHAT IT READS IS OF BULK AT MOST 1048576: true; the input reads as it did. -/
def fnExactProfGiveUptoRow : OpenClaim := { program := "ytgpogglaffehcaa", sum := "c465d4cde0376cd49e5261024e3d4cb1e6466a650208961876df5a7f4f3fafdf", func := "loop.example/g00454/laws.FnExactProfGive", spec := "fnExactProfGive", unfollowed := true, recurses := true, apart := false, narrowed := true }
def FnExactProfGiveUptoSaid : Prop := fnExactProfGiveUptoRow.holds Try.pinned (OpenSpec.upto fnExactProfGiveSpec)

/-- 'laws.FnExactJobOk', WHERE WHAT IT READS IS OF BULK AT MOST 1048576: true; the input reads as it did. -/
def fnExactJobOkUptoRow : OpenClaim := { program := "ytgpogglaffehcaa", sum := "c465d4cde0376cd49e5261024e3d4cb1e6466a650208961876df5a7f4f3fafdf", func := "loop.example/g00454/laws.FnExactJobOk", spec := "fnExactJobOk", unfollowed := true, recurses := true, apart := false, narrowed := true }
def FnExactJobOkUptoSaid : Prop := fnExactJobOkUptoRow.holds Try.pinned (OpenSpec.upto fnExactJobOkSpec)

/-- 'laws.FnExactRoomOk', WHERE WHAT IT READS IS OF BULK AT MOST 1048576: true; the input reads as it did. -/
def fnExactRoomOkUptoRow : OpenClaim := { program := "ytgpogglaffehcaa", sum := "c465d4cde0376cd49e5261024e3d4cb1e6466a650208961876df5a7f4f3fafdf", func := "loop.example/g00454/laws.FnExactRoomOk", spec := "fnExactRoomOk", unfollowed := true, recurses := true, apart := false, narrowed := true }
def FnExactRoomOkUptoSaid : Prop := fnExactRoomOkUptoRow.holds Try.pinned (OpenSpec.upto fnExactRoomOkSpec)

/-- 'laws.FnExactEligible', WHERE WHAT IT READS IS OF BULK AT MOST 1048576: true; the input reads as it did. -/
def fnExactEligibleUptoRow : OpenClaim := { program := "ytgpogglaffehcaa", sum := "c465d4cde0376cd49e5261024e3d4cb1e6466a650208961876df5a7f4f3fafdf", func := "loop.example/g00454/laws.FnExactEligible", spec := "fnExactEligible", unfollowed := true, recurses := true, apart := false, narrowed := true }
def FnExactEligibleUptoSaid : Prop := fnExactEligibleUptoRow.holds Try.pinned (OpenSpec.upto fnExactEligibleSpec)

/-- 'laws.FnExactChoose', WHERE WHAT IT READS IS OF BULK AT MOST 1048576: true; the input reads as it did. -/
def fnExactChooseUptoRow : OpenClaim := { program := "ytgpogglaffehcaa", sum := "c465d4cde0376cd49e5261024e3d4cb1e6466a650208961876df5a7f4f3fafdf", func := "loop.example/g00454/laws.FnExactChoose", spec := "fnExactChoose", unfollowed := true, recurses := true, apart := false, narrowed := true }
def FnExactChooseUptoSaid : Prop := fnExactChooseUptoRow.holds Try.pinned (OpenSpec.upto fnExactChooseSpec)

end Rows
end Go.Proofs.Ytgpogglaffehcaa
