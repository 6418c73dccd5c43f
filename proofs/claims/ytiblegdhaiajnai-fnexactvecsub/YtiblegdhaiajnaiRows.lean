/-
  No cell of these rows narrows 'for every input' (looked for: loops, veiled, ifaces, maps, wideKeys, modest, calm, conditions, laid).
  DERIVED. THE GIVEN ROWS OF THIS SEAT. 5 by the template 'for every input the law returns true; each argument reads behind the call as it read before'; 0 by the template 'total and deterministic' (their statements: YtiblegdhaiajnaiTotals.lean).
  GIVEN WITH THE SEED: the statements are not yours to turn. If you find one false, say at which input.
  Laid BY PROGRAM, IN A SANDBOX (cutbox-rows.mjs): the forced cells as the released guide's own fill.sh prints them over the translation 31d0bc83b2c513a6… (all of the seat's roots in one cut). By AI agents, Wed Nov 11 2026. No macro, syntax, notation, axiom, sorry.
-/
import Derived.Test.YtiblegdhaiajnaiChecked
import GoSem.Claim
import GoSem.ClaimJoined
import GoSem.ClaimMapViews
import Derived.JoinedTies
import Derived.KernelRfl
namespace Go.Proofs.Ytiblegdhaiajnai
/- THE CELL 'sum', in the pinned program and in every row, IS THE sha256 OF THE DUMP (.gsa) THAT YtiblegdhaiajnaiProg.lean LOADS. Nothing in Lean hashes anything: it is a label: what it is worth is what the hold of that sum in a sandbox is worth. -/
noncomputable def Try.pinned : Pinned := { name := "ytiblegdhaiajnai", sum := "31d0bc83b2c513a6316cdb306bd0f09b3ad6c65480ef8a671d6bcaf8b7088255", checked := Try.checked }
namespace Rows
def none {H : Type} : Left H := { results := [], args := [] }

/-- 'laws.FnExactVecOk': WHATEVER THE INPUT: true; the input reads as it did. -/
def fnExactVecOkSpec : ChangeSpec := { name := "fnExactVecOk", fn := fun _ => fun
  | [d] => { results := [.lit (.bool true)], args := [d] }
  | _ => none }
def fnExactVecOkRow : OpenClaim := { program := "ytiblegdhaiajnai", sum := "31d0bc83b2c513a6316cdb306bd0f09b3ad6c65480ef8a671d6bcaf8b7088255", func := "loop.example/g00454/laws.FnExactVecOk", spec := "fnExactVecOk", unfollowed := true, recurses := true, apart := false }
def FnExactVecOkSaid : Prop := fnExactVecOkRow.holds Try.pinned (OpenSpec.ofChange fnExactVecOkSpec)

/-- ITS FALSE NEIGHBOUR: 'it returns false'. Refute it at one input. -/
def fnExactVecOkWrong : ChangeSpec := { name := "fnExactVecOk", fn := fun _ => fun
  | [d] => { results := [.lit (.bool false)], args := [d] }
  | _ => none }
def FnExactVecOkWrongFalsely : Prop := fnExactVecOkRow.holds Try.pinned (OpenSpec.ofChange fnExactVecOkWrong)

/-- 'laws.FnExactVecFits': WHATEVER THE INPUT: true; the input reads as it did. -/
def fnExactVecFitsSpec : ChangeSpec := { name := "fnExactVecFits", fn := fun _ => fun
  | [d1, d2] => { results := [.lit (.bool true)], args := [d1, d2] }
  | _ => none }
def fnExactVecFitsRow : OpenClaim := { program := "ytiblegdhaiajnai", sum := "31d0bc83b2c513a6316cdb306bd0f09b3ad6c65480ef8a671d6bcaf8b7088255", func := "loop.example/g00454/laws.FnExactVecFits", spec := "fnExactVecFits", unfollowed := true, recurses := true, apart := false }
def FnExactVecFitsSaid : Prop := fnExactVecFitsRow.holds Try.pinned (OpenSpec.ofChange fnExactVecFitsSpec)

/-- ITS FALSE NEIGHBOUR: 'it returns false'. Refute it at one input. -/
def fnExactVecFitsWrong : ChangeSpec := { name := "fnExactVecFits", fn := fun _ => fun
  | [d1, d2] => { results := [.lit (.bool false)], args := [d1, d2] }
  | _ => none }
def FnExactVecFitsWrongFalsely : Prop := fnExactVecFitsRow.holds Try.pinned (OpenSpec.ofChange fnExactVecFitsWrong)

/-- 'laws.FnExactVecAdd': WHATEVER THE INPUT: true; the input reads as it did. -/
def fnExactVecAddSpec : ChangeSpec := { name := "fnExactVecAdd", fn := fun _ => fun
  | [d1, d2] => { results := [.lit (.bool true)], args := [d1, d2] }
  | _ => none }
def fnExactVecAddRow : OpenClaim := { program := "ytiblegdhaiajnai", sum := "31d0bc83b2c513a6316cdb306bd0f09b3ad6c65480ef8a671d6bcaf8b7088255", func := "loop.example/g00454/laws.FnExactVecAdd", spec := "fnExactVecAdd", unfollowed := true, recurses := true, apart := false }
def FnExactVecAddSaid : Prop := fnExactVecAddRow.holds Try.pinned (OpenSpec.ofChange fnExactVecAddSpec)

/-- ITS FALSE NEIGHBOUR: 'it returns false'. Refute it at one input. -/
def fnExactVecAddWrong : ChangeSpec := { name := "fnExactVecAdd", fn := fun _ => fun
  | [d1, d2] => { results := [.lit (.bool false)], args := [d1, d2] }
  | _ => none }
def FnExactVecAddWrongFalsely : Prop := fnExactVecAddRow.holds Try.pinned (OpenSpec.ofChange fnExactVecAddWrong)

/-- 'laws.FnExactVecSub': WHATEVER THE INPUT: true; the input reads as it did. -/
def fnExactVecSubSpec : ChangeSpec := { name := "fnExactVecSub", fn := fun _ => fun
  | [d1, d2] => { results := [.lit (.bool true)], args := [d1, d2] }
  | _ => none }
def fnExactVecSubRow : OpenClaim := { program := "ytiblegdhaiajnai", sum := "31d0bc83b2c513a6316cdb306bd0f09b3ad6c65480ef8a671d6bcaf8b7088255", func := "loop.example/g00454/laws.FnExactVecSub", spec := "fnExactVecSub", unfollowed := true, recurses := true, apart := false }
def FnExactVecSubSaid : Prop := fnExactVecSubRow.holds Try.pinned (OpenSpec.ofChange fnExactVecSubSpec)

/-- ITS FALSE NEIGHBOUR: 'it returns false'. Refute it at one input. -/
def fnExactVecSubWrong : ChangeSpec := { name := "fnExactVecSub", fn := fun _ => fun
  | [d1, d2] => { results := [.lit (.bool false)], args := [d1, d2] }
  | _ => none }
def FnExactVecSubWrongFalsely : Prop := fnExactVecSubRow.holds Try.pinned (OpenSpec.ofChange fnExactVecSubWrong)

/-- 'laws.FnExactVecMin': WHATEVER THE INPUT: true; the input reads as it did. -/
def fnExactVecMinSpec : ChangeSpec := { name := "fnExactVecMin", fn := fun _ => fun
  | [d1, d2] => { results := [.lit (.bool true)], args := [d1, d2] }
  | _ => none }
def fnExactVecMinRow : OpenClaim := { program := "ytiblegdhaiajnai", sum := "31d0bc83b2c513a6316cdb306bd0f09b3ad6c65480ef8a671d6bcaf8b7088255", func := "loop.example/g00454/laws.FnExactVecMin", spec := "fnExactVecMin", unfollowed := true, recurses := true, apart := false }
def FnExactVecMinSaid : Prop := fnExactVecMinRow.holds Try.pinned (OpenSpec.ofChange fnExactVecMinSpec)

/-- ITS FALSE NEIGHBOUR: 'it returns false'. Refute it at one input. -/
def fnExactVecMinWrong : ChangeSpec := { name := "fnExactVecMin", fn := fun _ => fun
  | [d1, d2] => { results := [.lit (.bool false)], args := [d1, d2] }
  | _ => none }
def FnExactVecMinWrongFalsely : Prop := fnExactVecMinRow.holds Try.pinned (OpenSpec.ofChange fnExactVecMinWrong)

/- THE SECOND FORM. 'bulk': how many values and letters a reading holds, each counted each time it is reached (what is shared counts as often as it is met; a slice's spare places count too). A statement '..UptoSaid' is the law's where the arguments, and the package variables that the reading takes, are together of bulk at most 1048576: NARROWER than '..Said'. Prove '..Said' where nothing that the law and all that it calls make is longer than what came in: it says more and counts as full. Else prove '..UptoSaid'. A law counts once. -/
mutual
def uptoBulk {H : Type} : DataW H → Nat
  | .lit (.string bytes) => bytes.length + 1
  | .lit _ => 1
  | .nil => 1
  | .ptr d => uptoBulk d + 1
  | .slice elems spare => uptoBulkAll elems + uptoBulkAll spare + 1
  | .agg parts => uptoBulkAll parts + 1
  | .iface _ d => uptoBulk d + 1
  | .map entries => uptoBulkEntries entries + 1
  | .held _ => 1
def uptoBulkAll {H : Type} : List (DataW H) → Nat
  | [] => 0
  | d :: r => uptoBulk d + uptoBulkAll r
def uptoBulkEntries {H : Type} : List (Lit × DataW H) → Nat
  | [] => 0
  | x :: r => uptoBulkEntry x + uptoBulkEntries r
def uptoBulkEntry {H : Type} : Lit × DataW H → Nat
  | (.string bytes, d) => bytes.length + uptoBulk d + 1
  | (_, d) => uptoBulk d + 1
 end
def uptoSmall : (H : Type) → List (DataW H) → Bool := fun _ ds => decide (uptoBulkAll ds ≤ 1048576)
def OpenSpec.upto (s : _root_.Go.ChangeSpec) : _root_.Go.OpenSpec := { _root_.Go.OpenSpec.ofChange s with cond := some uptoSmall }

/-- 'laws.FnExactVecOk', WHERE WHAT IT READS IS OF BULK AT MOST 1048576: true; the input reads as it did. -/
def fnExactVecOkUptoRow : OpenClaim := { program := "ytiblegdhaiajnai", sum := "31d0bc83b2c513a6316cdb306bd0f09b3ad6c65480ef8a671d6bcaf8b7088255", func := "loop.example/g00454/laws.FnExactVecOk", spec := "fnExactVecOk", unfollowed := true, recurses := true, apart := false, narrowed := true }
def FnExactVecOkUptoSaid : Prop := fnExactVecOkUptoRow.holds Try.pinned (OpenSpec.upto fnExactVecOkSpec)

/-- 'laws.FnExactVecFits', WHERE WHAT IT READS IS OF BULK AT MOST 1048576: true; the input reads as it did. -/
def fnExactVecFitsUptoRow : OpenClaim := { program := "ytiblegdhaiajnai", sum := "31d0bc83b2c513a6316cdb306bd0f09b3ad6c65480ef8a671d6bcaf8b7088255", func := "loop.example/g00454/laws.FnExactVecFits", spec := "fnExactVecFits", unfollowed := true, recurses := true, apart := false, narrowed := true }
def FnExactVecFitsUptoSaid : Prop := fnExactVecFitsUptoRow.holds Try.pinned (OpenSpec.upto fnExactVecFitsSpec)

/-- 'laws.FnExactVecAdd', WHERE WHAT IT READS IS OF BULK AT MOST 1048576: true; the input reads as it did. -/
def fnExactVecAddUptoRow : OpenClaim := { program := "ytiblegdhaiajnai", sum := "31d0bc83b2c513a6316cdb306bd0f09b3ad6c65480ef8a671d6bcaf8b7088255", func := "loop.example/g00454/laws.FnExactVecAdd", spec := "fnExactVecAdd", unfollowed := true, recurses := true, apart := false, narrowed := true }
def FnExactVecAddUptoSaid : Prop := fnExactVecAddUptoRow.holds Try.pinned (OpenSpec.upto fnExactVecAddSpec)

/-- 'laws.FnExactVecSub', WHERE WHAT IT READS IS OF BULK AT MOST 1048576: true; the input reads as it did. -/
def fnExactVecSubUptoRow : OpenClaim := { program := "ytiblegdhaiajnai", sum := "31d0bc83b2c513a6316cdb306bd0f09b3ad6c65480ef8a671d6bcaf8b7088255", func := "loop.example/g00454/laws.FnExactVecSub", spec := "fnExactVecSub", unfollowed := true, recurses := true, apart := false, narrowed := true }
def FnExactVecSubUptoSaid : Prop := fnExactVecSubUptoRow.holds Try.pinned (OpenSpec.upto fnExactVecSubSpec)

/-- 'laws.FnExactVecMin', WHERE WHAT IT READS IS OF BULK AT MOST 1048576: true; the input reads as it did. -/
def fnExactVecMinUptoRow : OpenClaim := { program := "ytiblegdhaiajnai", sum := "31d0bc83b2c513a6316cdb306bd0f09b3ad6c65480ef8a671d6bcaf8b7088255", func := "loop.example/g00454/laws.FnExactVecMin", spec := "fnExactVecMin", unfollowed := true, recurses := true, apart := false, narrowed := true }
def FnExactVecMinUptoSaid : Prop := fnExactVecMinUptoRow.holds Try.pinned (OpenSpec.upto fnExactVecMinSpec)

end Rows
end Go.Proofs.Ytiblegdhaiajnai
