/-
  No cell of these rows narrows 'for every input' (looked for: loops, veiled, ifaces, maps, wideKeys, modest, calm, conditions, laid).
  DERIVED. THE GIVEN ROWS OF THIS SEAT. 7 by the template 'for every input the law returns true; each argument reads behind the call as it read before'; 0 by the template 'total and deterministic' (their statements: YtdmmjggkdkmeaaaTotals.lean).
  GIVEN WITH THE SEED: the statements are not yours to turn. If you find one false, say at which input.
  Laid BY PROGRAM, IN A SANDBOX (cutbox-rows.mjs): the forced cells as the released guide's own fill.sh prints them over the translation 08c120f294c691a6… (all of the seat's roots in one cut). By AI agents, Wed Nov 11 2026. No macro, syntax, notation, axiom, sorry.
-/
import Derived.Test.YtdmmjggkdkmeaaaChecked
import GoSem.Claim
import GoSem.ClaimJoined
import GoSem.ClaimMapViews
import Derived.JoinedTies
import Derived.KernelRfl
namespace Go.Proofs.Ytdmmjggkdkmeaaa
/- THE CELL 'sum', in the pinned program and in every row, IS THE sha256 OF THE DUMP (.gsa) THAT YtdmmjggkdkmeaaaProg.lean LOADS. Nothing in Lean hashes anything: it is a label: what it is worth is what the hold of that sum in a sandbox is worth. -/
noncomputable def Try.pinned : Pinned := { name := "ytdmmjggkdkmeaaa", sum := "08c120f294c691a6c6b5b84aa83b4a112c746272554441beff1db43c84b8d15e", checked := Try.checked }
namespace Rows
def none {H : Type} : Left H := { results := [], args := [] }

/-- 'laws.FnHeap': WHATEVER THE INPUT: true; the input reads as it did. -/
def fnHeapSpec : ChangeSpec := { name := "fnHeap", fn := fun _ => fun
  | [d] => { results := [.lit (.bool true)], args := [d] }
  | _ => none }
def fnHeapRow : OpenClaim := { program := "ytdmmjggkdkmeaaa", sum := "08c120f294c691a6c6b5b84aa83b4a112c746272554441beff1db43c84b8d15e", func := "loop.example/g00454/laws.FnHeap", spec := "fnHeap", unfollowed := true, recurses := true, apart := false }
def FnHeapSaid : Prop := fnHeapRow.holds Try.pinned (OpenSpec.ofChange fnHeapSpec)

/-- ITS FALSE NEIGHBOUR: 'it returns false'. Refute it at one input. -/
def fnHeapWrong : ChangeSpec := { name := "fnHeap", fn := fun _ => fun
  | [d] => { results := [.lit (.bool false)], args := [d] }
  | _ => none }
def FnHeapWrongFalsely : Prop := fnHeapRow.holds Try.pinned (OpenSpec.ofChange fnHeapWrong)

/-- 'laws.FnExactDueFirst': WHATEVER THE INPUT: true; the input reads as it did. -/
def fnExactDueFirstSpec : ChangeSpec := { name := "fnExactDueFirst", fn := fun _ => fun
  | [d1, d2] => { results := [.lit (.bool true)], args := [d1, d2] }
  | _ => none }
def fnExactDueFirstRow : OpenClaim := { program := "ytdmmjggkdkmeaaa", sum := "08c120f294c691a6c6b5b84aa83b4a112c746272554441beff1db43c84b8d15e", func := "loop.example/g00454/laws.FnExactDueFirst", spec := "fnExactDueFirst", apart := false }
def FnExactDueFirstSaid : Prop := fnExactDueFirstRow.holds Try.pinned (OpenSpec.ofChange fnExactDueFirstSpec)

/-- ITS FALSE NEIGHBOUR: 'it returns false'. Refute it at one input. -/
def fnExactDueFirstWrong : ChangeSpec := { name := "fnExactDueFirst", fn := fun _ => fun
  | [d1, d2] => { results := [.lit (.bool false)], args := [d1, d2] }
  | _ => none }
def FnExactDueFirstWrongFalsely : Prop := fnExactDueFirstRow.holds Try.pinned (OpenSpec.ofChange fnExactDueFirstWrong)

/-- 'laws.FnExactHeapOk': WHATEVER THE INPUT: true; the input reads as it did. -/
def fnExactHeapOkSpec : ChangeSpec := { name := "fnExactHeapOk", fn := fun _ => fun
  | [d] => { results := [.lit (.bool true)], args := [d] }
  | _ => none }
def fnExactHeapOkRow : OpenClaim := { program := "ytdmmjggkdkmeaaa", sum := "08c120f294c691a6c6b5b84aa83b4a112c746272554441beff1db43c84b8d15e", func := "loop.example/g00454/laws.FnExactHeapOk", spec := "fnExactHeapOk", unfollowed := true, recurses := true, apart := false }
def FnExactHeapOkSaid : Prop := fnExactHeapOkRow.holds Try.pinned (OpenSpec.ofChange fnExactHeapOkSpec)

/-- ITS FALSE NEIGHBOUR: 'it returns false'. Refute it at one input. -/
def fnExactHeapOkWrong : ChangeSpec := { name := "fnExactHeapOk", fn := fun _ => fun
  | [d] => { results := [.lit (.bool false)], args := [d] }
  | _ => none }
def FnExactHeapOkWrongFalsely : Prop := fnExactHeapOkRow.holds Try.pinned (OpenSpec.ofChange fnExactHeapOkWrong)

/-- 'laws.FnExactHeapPush': WHATEVER THE INPUT: true; the input reads as it did. -/
def fnExactHeapPushSpec : ChangeSpec := { name := "fnExactHeapPush", fn := fun _ => fun
  | [d1, d2] => { results := [.lit (.bool true)], args := [d1, d2] }
  | _ => none }
def fnExactHeapPushRow : OpenClaim := { program := "ytdmmjggkdkmeaaa", sum := "08c120f294c691a6c6b5b84aa83b4a112c746272554441beff1db43c84b8d15e", func := "loop.example/g00454/laws.FnExactHeapPush", spec := "fnExactHeapPush", unfollowed := true, recurses := true, apart := false }
def FnExactHeapPushSaid : Prop := fnExactHeapPushRow.holds Try.pinned (OpenSpec.ofChange fnExactHeapPushSpec)

/-- ITS FALSE NEIGHBOUR: 'it returns false'. Refute it at one input. -/
def fnExactHeapPushWrong : ChangeSpec := { name := "fnExactHeapPush", fn := fun _ => fun
  | [d1, d2] => { results := [.lit (.bool false)], args := [d1, d2] }
  | _ => none }
def FnExactHeapPushWrongFalsely : Prop := fnExactHeapPushRow.holds Try.pinned (OpenSpec.ofChange fnExactHeapPushWrong)

/-- 'laws.FnExactHeapPop': WHATEVER THE INPUT: true; the input reads as it did. -/
def fnExactHeapPopSpec : ChangeSpec := { name := "fnExactHeapPop", fn := fun _ => fun
  | [d] => { results := [.lit (.bool true)], args := [d] }
  | _ => none }
def fnExactHeapPopRow : OpenClaim := { program := "ytdmmjggkdkmeaaa", sum := "08c120f294c691a6c6b5b84aa83b4a112c746272554441beff1db43c84b8d15e", func := "loop.example/g00454/laws.FnExactHeapPop", spec := "fnExactHeapPop", unfollowed := true, recurses := true, apart := false }
def FnExactHeapPopSaid : Prop := fnExactHeapPopRow.holds Try.pinned (OpenSpec.ofChange fnExactHeapPopSpec)

/-- ITS FALSE NEIGHBOUR: 'it returns false'. Refute it at one input. -/
def fnExactHeapPopWrong : ChangeSpec := { name := "fnExactHeapPop", fn := fun _ => fun
  | [d] => { results := [.lit (.bool false)], args := [d] }
  | _ => none }
def FnExactHeapPopWrongFalsely : Prop := fnExactHeapPopRow.holds Try.pinned (OpenSpec.ofChange fnExactHeapPopWrong)

/-- 'laws.FnExactHeapOf': WHATEVER THE INPUT: true; the input reads as it did. -/
def fnExactHeapOfSpec : ChangeSpec := { name := "fnExactHeapOf", fn := fun _ => fun
  | [d] => { results := [.lit (.bool true)], args := [d] }
  | _ => none }
def fnExactHeapOfRow : OpenClaim := { program := "ytdmmjggkdkmeaaa", sum := "08c120f294c691a6c6b5b84aa83b4a112c746272554441beff1db43c84b8d15e", func := "loop.example/g00454/laws.FnExactHeapOf", spec := "fnExactHeapOf", unfollowed := true, recurses := true, apart := false }
def FnExactHeapOfSaid : Prop := fnExactHeapOfRow.holds Try.pinned (OpenSpec.ofChange fnExactHeapOfSpec)

/-- ITS FALSE NEIGHBOUR: 'it returns false'. Refute it at one input. -/
def fnExactHeapOfWrong : ChangeSpec := { name := "fnExactHeapOf", fn := fun _ => fun
  | [d] => { results := [.lit (.bool false)], args := [d] }
  | _ => none }
def FnExactHeapOfWrongFalsely : Prop := fnExactHeapOfRow.holds Try.pinned (OpenSpec.ofChange fnExactHeapOfWrong)

/-- 'laws.FnExactHeapAll': WHATEVER THE INPUT: true; the input reads as it did. -/
def fnExactHeapAllSpec : ChangeSpec := { name := "fnExactHeapAll", fn := fun _ => fun
  | [d] => { results := [.lit (.bool true)], args := [d] }
  | _ => none }
def fnExactHeapAllRow : OpenClaim := { program := "ytdmmjggkdkmeaaa", sum := "08c120f294c691a6c6b5b84aa83b4a112c746272554441beff1db43c84b8d15e", func := "loop.example/g00454/laws.FnExactHeapAll", spec := "fnExactHeapAll", unfollowed := true, recurses := true, apart := false }
def FnExactHeapAllSaid : Prop := fnExactHeapAllRow.holds Try.pinned (OpenSpec.ofChange fnExactHeapAllSpec)

/-- ITS FALSE NEIGHBOUR: 'it returns false'. Refute it at one input. -/
def fnExactHeapAllWrong : ChangeSpec := { name := "fnExactHeapAll", fn := fun _ => fun
  | [d] => { results := [.lit (.bool false)], args := [d] }
  | _ => none }
def FnExactHeapAllWrongFalsely : Prop := fnExactHeapAllRow.holds Try.pinned (OpenSpec.ofChange fnExactHeapAllWrong)

/- THE SECOND FORM. 'bulk': how many values and letters a reading holds, each counted each time it is reached (what is shared counts as often as it is met; a slice's spare places count too). A statement '..UptoSaid' is the law's where the arguments, and the package variables that the reading takes, are together of bulk at most 1048576: NARROWER than '..Said'. Prove '..Said' where nothing that the law and all that it calls make is longer than what came in: it says more and counts as full. Else prove '..UptoSaid'. A law counts once. -/
mutual
def uptoBulk {H : Type} : DataW H → Nat
  | .lit (.string bytes) => bytes.length + 1
  | .lit _ => 1
  | .nil => 1
  | .ptr d => uptoBulk d + 1
  | .slice elems spare => uptoBulkAll elems + uptoBulkAll spare + 1
  | .agg parts => uptoBulkAll parts + 1
  | .iface _ d => uptoBulk d + 1
  | .map entries => uptoBulkEntries entries + 1
  | .held _ => 1
def uptoBulkAll {H : Type} : List (DataW H) → Nat
  | [] => 0
  | d :: r => uptoBulk d + uptoBulkAll r
def uptoBulkEntries {H : Type} : List (Lit × DataW H) → Nat
  | [] => 0
  | x :: r => uptoBulkEntry x + uptoBulkEntries r
def uptoBulkEntry {H : Type} : Lit × DataW H → Nat
  | (.string bytes, d) => bytes.length + uptoBulk d + 1
  | (_, d) => uptoBulk d + 1
 end
def uptoSmall : (H : Type) → List (DataW H) → Bool := fun _ ds => decide (uptoBulkAll ds ≤ 1048576)
def OpenSpec.upto (s : _root_.Go.ChangeSpec) : _root_.Go.OpenSpec := { _root_.Go.OpenSpec.ofChange s with cond := some uptoSmall }

/-- 'laws.FnHeap', WHERE WHAT IT READS IS OF BULK AT MOST 1048576: true; the input reads as it did. -/
def fnHeapUptoRow : OpenClaim := { program := "ytdmmjggkdkmeaaa", sum := "08c120f294c691a6c6b5b84aa83b4a112c746272554441beff1db43c84b8d15e", func := "loop.example/g00454/laws.FnHeap", spec := "fnHeap", unfollowed := true, recurses := true, apart := false, narrowed := true }
def FnHeapUptoSaid : Prop := fnHeapUptoRow.holds Try.pinned (OpenSpec.upto fnHeapSpec)

/-- 'laws.FnExactDueFirst', WHERE WHAT IT READS IS OF BULK AT MOST 1048576: true; the input reads as it did. -/
def fnExactDueFirstUptoRow : OpenClaim := { program := "ytdmmjggkdkmeaaa", sum := "08c120f294c691a6c6b5b84aa83b4a112c746272554441beff1db43c84b8d15e", func := "loop.example/g00454/laws.FnExactDueFirst", spec := "fnExactDueFirst", apart := false, narrowed := true }
def FnExactDueFirstUptoSaid : Prop := fnExactDueFirstUptoRow.holds Try.pinned (OpenSpec.upto fnExactDueFirstSpec)

/-- 'laws.FnExactHeapOk', WHERE WHAT IT READS IS OF BULK AT MOST 1048576: true; the input reads as it did. -/
def fnExactHeapOkUptoRow : OpenClaim := { program := "ytdmmjggkdkmeaaa", sum := "08c120f294c691a6c6b5b84aa83b4a112c746272554441beff1db43c84b8d15e", func := "loop.example/g00454/laws.FnExactHeapOk", spec := "fnExactHeapOk", unfollowed := true, recurses := true, apart := false, narrowed := true }
def FnExactHeapOkUptoSaid : Prop := fnExactHeapOkUptoRow.holds Try.pinned (OpenSpec.upto fnExactHeapOkSpec)

/-- 'laws.FnExactHeapPush', WHERE WHAT IT READS IS OF BULK AT MOST 1048576: true; the input reads as it did. -/
def fnExactHeapPushUptoRow : OpenClaim := { program := "ytdmmjggkdkmeaaa", sum := "08c120f294c691a6c6b5b84aa83b4a112c746272554441beff1db43c84b8d15e", func := "loop.example/g00454/laws.FnExactHeapPush", spec := "fnExactHeapPush", unfollowed := true, recurses := true, apart := false, narrowed := true }
def FnExactHeapPushUptoSaid : Prop := fnExactHeapPushUptoRow.holds Try.pinned (OpenSpec.upto fnExactHeapPushSpec)

/-- 'laws.FnExactHeapPop', WHERE WHAT IT READS IS OF BULK AT MOST 1048576: true; the input reads as it did. -/
def fnExactHeapPopUptoRow : OpenClaim := { program := "ytdmmjggkdkmeaaa", sum := "08c120f294c691a6c6b5b84aa83b4a112c746272554441beff1db43c84b8d15e", func := "loop.example/g00454/laws.FnExactHeapPop", spec := "fnExactHeapPop", unfollowed := true, recurses := true, apart := false, narrowed := true }
def FnExactHeapPopUptoSaid : Prop := fnExactHeapPopUptoRow.holds Try.pinned (OpenSpec.upto fnExactHeapPopSpec)

/-- 'laws.FnExactHeapOf', WHERE WHAT IT READS IS OF BULK AT MOST 1048576: true; the input reads as it did. -/
def fnExactHeapOfUptoRow : OpenClaim := { program := "ytdmmjggkdkmeaaa", sum := "08c120f294c691a6c6b5b84aa83b4a112c746272554441beff1db43c84b8d15e", func := "loop.example/g00454/laws.FnExactHeapOf", spec := "fnExactHeapOf", unfollowed := true, recurses := true, apart := false, narrowed := true }
def FnExactHeapOfUptoSaid : Prop := fnExactHeapOfUptoRow.holds Try.pinned (OpenSpec.upto fnExactHeapOfSpec)

/-- 'laws.FnExactHeapAll', WHERE WHAT IT READS IS OF BULK AT MOST 1048576: true; the input reads as it did. -/
def fnExactHeapAllUptoRow : OpenClaim := { program := "ytdmmjggkdkmeaaa", sum := "08c120f294c691a6c6b5b84aa83b4a112c746272554441beff1db43c84b8d15e", func := "loop.example/g00454/laws.FnExactHeapAll", spec := "fnExactHeapAll", unfollowed := true, recurses := true, apart := false, narrowed := true }
def FnExactHeapAllUptoSaid : Prop := fnExactHeapAllUptoRow.holds Try.pinned (OpenSpec.upto fnExactHeapAllSpec)

end Rows
end Go.Proofs.Ytdmmjggkdkmeaaa
