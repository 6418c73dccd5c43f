/-
  No cell of these rows narrows 'for every input' (looked for: loops, veiled, ifaces, maps, wideKeys, modest, calm, conditions, laid).
  DERIVED. THE GIVEN ROWS OF THIS SEAT. 12 by the template 'for every input the law returns true; each argument reads behind the call as it read before'; 0 by the template 'total and deterministic' (their statements: YtleemkolcciokaaTotals.lean).
  GIVEN WITH THE SEED: the statements are not yours to turn. If you find one false, say at which input.
  Laid BY PROGRAM, IN A SANDBOX (cutbox-rows.mjs): the forced cells as the released guide's own fill.sh prints them over the translation 68dee9b615ad4043… (all of the seat's roots in one cut). By AI agents, Wed Nov 11 2026. No macro, syntax, notation, axiom, sorry.
-/
import Derived.Test.YtleemkolcciokaaChecked
import GoSem.Claim
import GoSem.ClaimJoined
import GoSem.ClaimMapViews
import Derived.JoinedTies
import Derived.KernelRfl
namespace Go.Proofs.Ytleemkolcciokaa
/- THE CELL 'sum', in the pinned program and in every row, IS THE sha256 OF THE DUMP (.gsa) THAT YtleemkolcciokaaProg.lean LOADS. Nothing in Lean hashes anything: it is a label: what it is worth is what the hold of that sum in a sandbox is worth. -/
noncomputable def Try.pinned : Pinned := { name := "ytleemkolcciokaa", sum := "68dee9b615ad40432a3fa6289bc0c0046c65cabd52707bd8ae692ad5b96e2d16", checked := Try.checked }
namespace Rows
def none {H : Type} : Left H := { results := [], args := [] }

/-- 'laws.FnProf': WHATEVER THE INPUT: true; the input reads as it did. -/
def fnProfSpec : ChangeSpec := { name := "fnProf", fn := fun _ => fun
  | [d] => { results := [.lit (.bool true)], args := [d] }
  | _ => none }
def fnProfRow : OpenClaim := { program := "ytleemkolcciokaa", sum := "68dee9b615ad40432a3fa6289bc0c0046c65cabd52707bd8ae692ad5b96e2d16", func := "loop.example/g00454/laws.FnProf", spec := "fnProf", unfollowed := true, recurses := true, apart := false }
def FnProfSaid : Prop := fnProfRow.holds Try.pinned (OpenSpec.ofChange fnProfSpec)

/-- ITS FALSE NEIGHBOUR: 'it returns false'. Refute it at one input. -/
def fnProfWrong : ChangeSpec := { name := "fnProf", fn := fun _ => fun
  | [d] => { results := [.lit (.bool false)], args := [d] }
  | _ => none }
def FnProfWrongFalsely : Prop := fnProfRow.holds Try.pinned (OpenSpec.ofChange fnProfWrong)

/-- 'laws.FnMin': WHATEVER THE INPUT: true; the input reads as it did. -/
def fnMinSpec : ChangeSpec := { name := "fnMin", fn := fun _ => fun
  | [d] => { results := [.lit (.bool true)], args := [d] }
  | _ => none }
def fnMinRow : OpenClaim := { program := "ytleemkolcciokaa", sum := "68dee9b615ad40432a3fa6289bc0c0046c65cabd52707bd8ae692ad5b96e2d16", func := "loop.example/g00454/laws.FnMin", spec := "fnMin", unfollowed := true, recurses := true, apart := false }
def FnMinSaid : Prop := fnMinRow.holds Try.pinned (OpenSpec.ofChange fnMinSpec)

/-- ITS FALSE NEIGHBOUR: 'it returns false'. Refute it at one input. -/
def fnMinWrong : ChangeSpec := { name := "fnMin", fn := fun _ => fun
  | [d] => { results := [.lit (.bool false)], args := [d] }
  | _ => none }
def FnMinWrongFalsely : Prop := fnMinRow.holds Try.pinned (OpenSpec.ofChange fnMinWrong)

/-- 'laws.FnCut': WHATEVER THE INPUT: true; the input reads as it did. -/
def fnCutSpec : ChangeSpec := { name := "fnCut", fn := fun _ => fun
  | [d] => { results := [.lit (.bool true)], args := [d] }
  | _ => none }
def fnCutRow : OpenClaim := { program := "ytleemkolcciokaa", sum := "68dee9b615ad40432a3fa6289bc0c0046c65cabd52707bd8ae692ad5b96e2d16", func := "loop.example/g00454/laws.FnCut", spec := "fnCut", unfollowed := true, recurses := true, apart := false }
def FnCutSaid : Prop := fnCutRow.holds Try.pinned (OpenSpec.ofChange fnCutSpec)

/-- ITS FALSE NEIGHBOUR: 'it returns false'. Refute it at one input. -/
def fnCutWrong : ChangeSpec := { name := "fnCut", fn := fun _ => fun
  | [d] => { results := [.lit (.bool false)], args := [d] }
  | _ => none }
def FnCutWrongFalsely : Prop := fnCutRow.holds Try.pinned (OpenSpec.ofChange fnCutWrong)

/-- 'laws.FnExactProfOk': WHATEVER THE INPUT: true; the input reads as it did. -/
def fnExactProfOkSpec : ChangeSpec := { name := "fnExactProfOk", fn := fun _ => fun
  | [d] => { results := [.lit (.bool true)], args := [d] }
  | _ => none }
def fnExactProfOkRow : OpenClaim := { program := "ytleemkolcciokaa", sum := "68dee9b615ad40432a3fa6289bc0c0046c65cabd52707bd8ae692ad5b96e2d16", func := "loop.example/g00454/laws.FnExactProfOk", spec := "fnExactProfOk", unfollowed := true, recurses := true, apart := false }
def FnExactProfOkSaid : Prop := fnExactProfOkRow.holds Try.pinned (OpenSpec.ofChange fnExactProfOkSpec)

/-- ITS FALSE NEIGHBOUR: 'it returns false'. Refute it at one input. -/
def fnExactProfOkWrong : ChangeSpec := { name := "fnExactProfOk", fn := fun _ => fun
  | [d] => { results := [.lit (.bool false)], args := [d] }
  | _ => none }
def FnExactProfOkWrongFalsely : Prop := fnExactProfOkRow.holds Try.pinned (OpenSpec.ofChange fnExactProfOkWrong)

/-- 'laws.FnExactProfNew': WHATEVER THE INPUT: true; the input reads as it did. -/
def fnExactProfNewSpec : ChangeSpec := { name := "fnExactProfNew", fn := fun _ => fun
  | [d] => { results := [.lit (.bool true)], args := [d] }
  | _ => none }
def fnExactProfNewRow : OpenClaim := { program := "ytleemkolcciokaa", sum := "68dee9b615ad40432a3fa6289bc0c0046c65cabd52707bd8ae692ad5b96e2d16", func := "loop.example/g00454/laws.FnExactProfNew", spec := "fnExactProfNew", unfollowed := true, recurses := true, apart := false }
def FnExactProfNewSaid : Prop := fnExactProfNewRow.holds Try.pinned (OpenSpec.ofChange fnExactProfNewSpec)

/-- ITS FALSE NEIGHBOUR: 'it returns false'. Refute it at one input. -/
def fnExactProfNewWrong : ChangeSpec := { name := "fnExactProfNew", fn := fun _ => fun
  | [d] => { results := [.lit (.bool false)], args := [d] }
  | _ => none }
def FnExactProfNewWrongFalsely : Prop := fnExactProfNewRow.holds Try.pinned (OpenSpec.ofChange fnExactProfNewWrong)

/-- 'laws.FnExactProfAt': WHATEVER THE INPUT: true; the input reads as it did. -/
def fnExactProfAtSpec : ChangeSpec := { name := "fnExactProfAt", fn := fun _ => fun
  | [d1, d2] => { results := [.lit (.bool true)], args := [d1, d2] }
  | _ => none }
def fnExactProfAtRow : OpenClaim := { program := "ytleemkolcciokaa", sum := "68dee9b615ad40432a3fa6289bc0c0046c65cabd52707bd8ae692ad5b96e2d16", func := "loop.example/g00454/laws.FnExactProfAt", spec := "fnExactProfAt", unfollowed := true, recurses := true, apart := false }
def FnExactProfAtSaid : Prop := fnExactProfAtRow.holds Try.pinned (OpenSpec.ofChange fnExactProfAtSpec)

/-- ITS FALSE NEIGHBOUR: 'it returns false'. Refute it at one input. -/
def fnExactProfAtWrong : ChangeSpec := { name := "fnExactProfAt", fn := fun _ => fun
  | [d1, d2] => { results := [.lit (.bool false)], args := [d1, d2] }
  | _ => none }
def FnExactProfAtWrongFalsely : Prop := fnExactProfAtRow.holds Try.pinned (OpenSpec.ofChange fnExactProfAtWrong)

/-- 'laws.FnExactProfMin': WHATEVER THE INPUT: true; the input reads as it did. -/
def fnExactProfMinSpec : ChangeSpec := { name := "fnExactProfMin", fn := fun _ => fun
  | [d1, d2, d3] => { results := [.lit (.bool true)], args := [d1, d2, d3] }
  | _ => none }
def fnExactProfMinRow : OpenClaim := { program := "ytleemkolcciokaa", sum := "68dee9b615ad40432a3fa6289bc0c0046c65cabd52707bd8ae692ad5b96e2d16", func := "loop.example/g00454/laws.FnExactProfMin", spec := "fnExactProfMin", unfollowed := true, recurses := true, apart := false }
def FnExactProfMinSaid : Prop := fnExactProfMinRow.holds Try.pinned (OpenSpec.ofChange fnExactProfMinSpec)

/-- ITS FALSE NEIGHBOUR: 'it returns false'. Refute it at one input. -/
def fnExactProfMinWrong : ChangeSpec := { name := "fnExactProfMin", fn := fun _ => fun
  | [d1, d2, d3] => { results := [.lit (.bool false)], args := [d1, d2, d3] }
  | _ => none }
def FnExactProfMinWrongFalsely : Prop := fnExactProfMinRow.holds Try.pinned (OpenSpec.ofChange fnExactProfMinWrong)

/-- 'laws.FnExactProfTake': WHATEVER THE INPUT: true; the input reads as it did. -/
def fnExactProfTakeSpec : ChangeSpec := { name := "fnExactProfTake", fn := fun _ => fun
  | [d1, d2, d3, d4] => { results := [.lit (.bool true)], args := [d1, d2, d3, d4] }
  | _ => none }
def fnExactProfTakeRow : OpenClaim := { program := "ytleemkolcciokaa", sum := "68dee9b615ad40432a3fa6289bc0c0046c65cabd52707bd8ae692ad5b96e2d16", func := "loop.example/g00454/laws.FnExactProfTake", spec := "fnExactProfTake", unfollowed := true, recurses := true, apart := false }
def FnExactProfTakeSaid : Prop := fnExactProfTakeRow.holds Try.pinned (OpenSpec.ofChange fnExactProfTakeSpec)

/-- ITS FALSE NEIGHBOUR: 'it returns false'. Refute it at one input. -/
def fnExactProfTakeWrong : ChangeSpec := { name := "fnExactProfTake", fn := fun _ => fun
  | [d1, d2, d3, d4] => { results := [.lit (.bool false)], args := [d1, d2, d3, d4] }
  | _ => none }
def FnExactProfTakeWrongFalsely : Prop := fnExactProfTakeRow.holds Try.pinned (OpenSpec.ofChange fnExactProfTakeWrong)

/-- 'laws.FnExactProfGive': WHATEVER THE INPUT: true; the input reads as it did. -/
def fnExactProfGiveSpec : ChangeSpec := { name := "fnExactProfGive", fn := fun _ => fun
  | [d1, d2, d3, d4] => { results := [.lit (.bool true)], args := [d1, d2, d3, d4] }
  | _ => none }
def fnExactProfGiveRow : OpenClaim := { program := "ytleemkolcciokaa", sum := "68dee9b615ad40432a3fa6289bc0c0046c65cabd52707bd8ae692ad5b96e2d16", func := "loop.example/g00454/laws.FnExactProfGive", spec := "fnExactProfGive", unfollowed := true, recurses := true, apart := false }
def FnExactProfGiveSaid : Prop := fnExactProfGiveRow.holds Try.pinned (OpenSpec.ofChange fnExactProfGiveSpec)

/-- ITS FALSE NEIGHBOUR: 'it returns false'. Refute it at one input. -/
def fnExactProfGiveWrong : ChangeSpec := { name := "fnExactProfGive", fn := fun _ => fun
  | [d1, d2, d3, d4] => { results := [.lit (.bool false)], args := [d1, d2, d3, d4] }
  | _ => none }
def FnExactProfGiveWrongFalsely : Prop := fnExactProfGiveRow.holds Try.pinned (OpenSpec.ofChange fnExactProfGiveWrong)

/-- 'laws.FnExactProfCut': WHATEVER THE INPUT: true; the input reads as it did. -/
def fnExactProfCutSpec : ChangeSpec := { name := "fnExactProfCut", fn := fun _ => fun
  | [d1, d2] => { results := [.lit (.bool true)], args := [d1, d2] }
  | _ => none }
def fnExactProfCutRow : OpenClaim := { program := "ytleemkolcciokaa", sum := "68dee9b615ad40432a3fa6289bc0c0046c65cabd52707bd8ae692ad5b96e2d16", func := "loop.example/g00454/laws.FnExactProfCut", spec := "fnExactProfCut", unfollowed := true, recurses := true, apart := false }
def FnExactProfCutSaid : Prop := fnExactProfCutRow.holds Try.pinned (OpenSpec.ofChange fnExactProfCutSpec)

/-- ITS FALSE NEIGHBOUR: 'it returns false'. Refute it at one input. -/
def fnExactProfCutWrong : ChangeSpec := { name := "fnExactProfCut", fn := fun _ => fun
  | [d1, d2] => { results := [.lit (.bool false)], args := [d1, d2] }
  | _ => none }
def FnExactProfCutWrongFalsely : Prop := fnExactProfCutRow.holds Try.pinned (OpenSpec.ofChange fnExactProfCutWrong)

/-- 'laws.FnExactProfTimes': WHATEVER THE INPUT: true; the input reads as it did. -/
def fnExactProfTimesSpec : ChangeSpec := { name := "fnExactProfTimes", fn := fun _ => fun
  | [d] => { results := [.lit (.bool true)], args := [d] }
  | _ => none }
def fnExactProfTimesRow : OpenClaim := { program := "ytleemkolcciokaa", sum := "68dee9b615ad40432a3fa6289bc0c0046c65cabd52707bd8ae692ad5b96e2d16", func := "loop.example/g00454/laws.FnExactProfTimes", spec := "fnExactProfTimes", unfollowed := true, recurses := true, apart := false }
def FnExactProfTimesSaid : Prop := fnExactProfTimesRow.holds Try.pinned (OpenSpec.ofChange fnExactProfTimesSpec)

/-- ITS FALSE NEIGHBOUR: 'it returns false'. Refute it at one input. -/
def fnExactProfTimesWrong : ChangeSpec := { name := "fnExactProfTimes", fn := fun _ => fun
  | [d] => { results := [.lit (.bool false)], args := [d] }
  | _ => none }
def FnExactProfTimesWrongFalsely : Prop := fnExactProfTimesRow.holds Try.pinned (OpenSpec.ofChange fnExactProfTimesWrong)

/-- 'laws.FnExactSameProf': WHATEVER THE INPUT: true; the input reads as it did. -/
def fnExactSameProfSpec : ChangeSpec := { name := "fnExactSameProf", fn := fun _ => fun
  | [d1, d2] => { results := [.lit (.bool true)], args := [d1, d2] }
  | _ => none }
def fnExactSameProfRow : OpenClaim := { program := "ytleemkolcciokaa", sum := "68dee9b615ad40432a3fa6289bc0c0046c65cabd52707bd8ae692ad5b96e2d16", func := "loop.example/g00454/laws.FnExactSameProf", spec := "fnExactSameProf", unfollowed := true, recurses := true, apart := false }
def FnExactSameProfSaid : Prop := fnExactSameProfRow.holds Try.pinned (OpenSpec.ofChange fnExactSameProfSpec)

/-- ITS FALSE NEIGHBOUR: 'it returns false'. Refute it at one input. -/
def fnExactSameProfWrong : ChangeSpec := { name := "fnExactSameProf", fn := fun _ => fun
  | [d1, d2] => { results := [.lit (.bool false)], args := [d1, d2] }
  | _ => none }
def FnExactSameProfWrongFalsely : Prop := fnExactSameProfRow.holds Try.pinned (OpenSpec.ofChange fnExactSameProfWrong)

/- THE SECOND FORM. 'bulk': how many values and letters a reading holds, each counted each time it is reached (what is shared counts as often as it is met; a slice's spare places count too). A statement '..UptoSaid' is the law's where the arguments, and the package variables that the reading takes, are together of bulk at most 1048576: NARROWER than '..Said'. Prove '..Said' where nothing that the law and all that it calls make is longer than what came in: it says more and counts as full. Else prove '..UptoSaid'. A law counts once. -/
mutual
def uptoBulk {H : Type} : DataW H → Nat
  | .lit (.string bytes) => bytes.length + 1
  | .lit _ => 1
  | .nil => 1
  | .ptr d => uptoBulk d + 1
  | .slice elems spare => uptoBulkAll elems + uptoBulkAll spare + 1
  | .agg parts => uptoBulkAll parts + 1
  | .iface _ d => uptoBulk d + 1
  | .map entries => uptoBulkEntries entries + 1
  | .held _ => 1
def uptoBulkAll {H : Type} : List (DataW H) → Nat
  | [] => 0
  | d :: r => uptoBulk d + uptoBulkAll r
def uptoBulkEntries {H : Type} : List (Lit × DataW H) → Nat
  | [] => 0
  | x :: r => uptoBulkEntry x + uptoBulkEntries r
def uptoBulkEntry {H : Type} : Lit × DataW H → Nat
  | (.string bytes, d) => bytes.length + uptoBulk d + 1
  | (_, d) => uptoBulk d + 1
 end
def uptoSmall : (H : Type) → List (DataW H) → Bool := fun _ ds => decide (uptoBulkAll ds ≤ 1048576)
def OpenSpec.upto (s : _root_.Go.ChangeSpec) : _root_.Go.OpenSpec := { _root_.Go.OpenSpec.ofChange s with cond := some uptoSmall }

/-- 'laws.FnProf', WHERE WHAT IT READS IS OF BULK AT MOST 1048576: true; the input reads as it did. -/
def fnProfUptoRow : OpenClaim := { program := "ytleemkolcciokaa", sum := "68dee9b615ad40432a3fa6289bc0c0046c65cabd52707bd8ae692ad5b96e2d16", func := "loop.example/g00454/laws.FnProf", spec := "fnProf", unfollowed := true, recurses := true, apart := false, narrowed := true }
def FnProfUptoSaid : Prop := fnProfUptoRow.holds Try.pinned (OpenSpec.upto fnProfSpec)

/-- 'laws.FnMin', WHERE WHAT IT READS IS OF BULK AT MOST 1048576: true; the input reads as it did. -/
def fnMinUptoRow : OpenClaim := { program := "ytleemkolcciokaa", sum := "68dee9b615ad40432a3fa6289bc0c0046c65cabd52707bd8ae692ad5b96e2d16", func := "loop.example/g00454/laws.FnMin", spec := "fnMin", unfollowed := true, recurses := true, apart := false, narrowed := true }
def FnMinUptoSaid : Prop := fnMinUptoRow.holds Try.pinned (OpenSpec.upto fnMinSpec)

/-- 'laws.FnCut', WHERE WHAT IT READS IS OF BULK AT MOST 1048576: true; the input reads as it did. -/
def fnCutUptoRow : OpenClaim := { program := "ytleemkolcciokaa", sum := "68dee9b615ad40432a3fa6289bc0c0046c65cabd52707bd8ae692ad5b96e2d16", func := "loop.example/g00454/laws.FnCut", spec := "fnCut", unfollowed := true, recurses := true, apart := false, narrowed := true }
def FnCutUptoSaid : Prop := fnCutUptoRow.holds Try.pinned (OpenSpec.upto fnCutSpec)

/-- 'laws.FnExactProfOk', WHERE WHAT IT READS IS OF BULK AT MOST 1048576: true; the input reads as it did. -/
def fnExactProfOkUptoRow : OpenClaim := { program := "ytleemkolcciokaa", sum := "68dee9b615ad40432a3fa6289bc0c0046c65cabd52707bd8ae692ad5b96e2d16", func := "loop.example/g00454/laws.FnExactProfOk", spec := "fnExactProfOk", unfollowed := true, recurses := true, apart := false, narrowed := true }
def FnExactProfOkUptoSaid : Prop := fnExactProfOkUptoRow.holds Try.pinned (OpenSpec.upto fnExactProfOkSpec)

/-- 'laws.FnExactProfNew', WHERE WHAT IT READS IS OF BULK AT MOST 1048576: true; the input reads as it did. -/
def fnExactProfNewUptoRow : OpenClaim := { program := "ytleemkolcciokaa", sum := "68dee9b615ad40432a3fa6289bc0c0046c65cabd52707bd8ae692ad5b96e2d16", func := "loop.example/g00454/laws.FnExactProfNew", spec := "fnExactProfNew", unfollowed := true, recurses := true, apart := false, narrowed := true }
def FnExactProfNewUptoSaid : Prop := fnExactProfNewUptoRow.holds Try.pinned (OpenSpec.upto fnExactProfNewSpec)

/-- 'laws.FnExactProfAt', WHERE WHAT IT READS IS OF BULK AT MOST 1048576: true; the input reads as it did. -/
def fnExactProfAtUptoRow : OpenClaim := { program := "ytleemkolcciokaa", sum := "68dee9b615ad40432a3fa6289bc0c0046c65cabd52707bd8ae692ad5b96e2d16", func := "loop.example/g00454/laws.FnExactProfAt", spec := "fnExactProfAt", unfollowed := true, recurses := true, apart := false, narrowed := true }
def FnExactProfAtUptoSaid : Prop := fnExactProfAtUptoRow.holds Try.pinned (OpenSpec.upto fnExactProfAtSpec)

/-- 'laws.FnExactProfMin', WHERE WHAT IT READS IS OF BULK AT MOST 1048576: true; the input reads as it did. -/
def fnExactProfMinUptoRow : OpenClaim := { program := "ytleemkolcciokaa", sum := "68dee9b615ad40432a3fa6289bc0c0046c65cabd52707bd8ae692ad5b96e2d16", func := "loop.example/g00454/laws.FnExactProfMin", spec := "fnExactProfMin", unfollowed := true, recurses := true, apart := false, narrowed := true }
def FnExactProfMinUptoSaid : Prop := fnExactProfMinUptoRow.holds Try.pinned (OpenSpec.upto fnExactProfMinSpec)

/-- 'laws.FnExactProfTake', WHERE WHAT IT READS IS OF BULK AT MOST 1048576: true; the input reads as it did. -/
def fnExactProfTakeUptoRow : OpenClaim := { program := "ytleemkolcciokaa", sum := "68dee9b615ad40432a3fa6289bc0c0046c65cabd52707bd8ae692ad5b96e2d16", func := "loop.example/g00454/laws.FnExactProfTake", spec := "fnExactProfTake", unfollowed := true, recurses := true, apart := false, narrowed := true }
def FnExactProfTakeUptoSaid : Prop := fnExactProfTakeUptoRow.holds Try.pinned (OpenSpec.upto fnExactProfTakeSpec)

/-- 'laws.FnExactProfGive', WHERE WHAT IT READS IS OF BULK AT MOST 1048576: true; the input reads as it did. -/
def fnExactProfGiveUptoRow : OpenClaim := { program := "ytleemkolcciokaa", sum := "68dee9b615ad40432a3fa6289bc0c0046c65cabd52707bd8ae692ad5b96e2d16", func := "loop.example/g00454/laws.FnExactProfGive", spec := "fnExactProfGive", unfollowed := true, recurses := true, apart := false, narrowed := true }
def FnExactProfGiveUptoSaid : Prop := fnExactProfGiveUptoRow.holds Try.pinned (OpenSpec.upto fnExactProfGiveSpec)

/-- 'laws.FnExactProfCut', WHERE WHAT IT READS IS OF BULK AT MOST 1048576: true; the input reads as it did. -/
def fnExactProfCutUptoRow : OpenClaim := { program := "ytleemkolcciokaa", sum := "68dee9b615ad40432a3fa6289bc0c0046c65cabd52707bd8ae692ad5b96e2d16", func := "loop.example/g00454/laws.FnExactProfCut", spec := "fnExactProfCut", unfollowed := true, recurses := true, apart := false, narrowed := true }
def FnExactProfCutUptoSaid : Prop := fnExactProfCutUptoRow.holds Try.pinned (OpenSpec.upto fnExactProfCutSpec)

/-- 'laws.FnExactProfTimes', WHERE WHAT IT READS IS OF BULK AT MOST 1048576: true; the input reads as it did. -/
def fnExactProfTimesUptoRow : OpenClaim := { program := "ytleemkolcciokaa", sum := "68dee9b615ad40432a3fa6289bc0c0046c65cabd52707bd8ae692ad5b96e2d16", func := "loop.example/g00454/laws.FnExactProfTimes", spec := "fnExactProfTimes", unfollowed := true, recurses := true, apart := false, narrowed := true }
def FnExactProfTimesUptoSaid : Prop := fnExactProfTimesUptoRow.holds Try.pinned (OpenSpec.upto fnExactProfTimesSpec)

/-- 'laws.FnExactSameProf', WHERE WHAT IT READS IS OF BULK AT MOST 1048576: true; the input reads as it did. -/
def fnExactSameProfUptoRow : OpenClaim := { program := "ytleemkolcciokaa", sum := "68dee9b615ad40432a3fa6289bc0c0046c65cabd52707bd8ae692ad5b96e2d16", func := "loop.example/g00454/laws.FnExactSameProf", spec := "fnExactSameProf", unfollowed := true, recurses := true, apart := false, narrowed := true }
def FnExactSameProfUptoSaid : Prop := fnExactSameProfUptoRow.holds Try.pinned (OpenSpec.upto fnExactSameProfSpec)

end Rows
end Go.Proofs.Ytleemkolcciokaa
