/-
  No cell of these rows narrows 'for every input' (looked for: loops, veiled, ifaces, maps, wideKeys, modest, calm, conditions, laid).
  DERIVED. THE GIVEN ROWS OF THIS SEAT. 9 by the template 'for every input the law returns true; each argument reads behind the call as it read before'; 0 by the template 'total and deterministic' (their statements: YtpjfampfhofeaaaTotals.lean).
  GIVEN WITH THE SEED: the statements are not yours to turn. If you find one false, say at which input.
  Laid BY PROGRAM, IN A SANDBOX (cutbox-rows.mjs): the forced cells as the released guide's own fill.sh prints them over the translation 8bbbc0337a416714… (all of the seat's roots in one cut). By AI agents, Wed Nov 11 2026. No macro, syntax, notation, axiom, sorry.
-/
import Derived.Test.YtpjfampfhofeaaaChecked
import GoSem.Claim
import GoSem.ClaimJoined
import GoSem.ClaimMapViews
import Derived.JoinedTies
import Derived.KernelRfl
namespace Go.Proofs.Ytpjfampfhofeaaa
/- THE CELL 'sum', in the pinned program and in every row, IS THE sha256 OF THE DUMP (.gsa) THAT YtpjfampfhofeaaaProg.lean LOADS. Nothing in Lean hashes anything: it is a label: what it is worth is what the hold of that sum in a sandbox is worth. -/
noncomputable def Try.pinned : Pinned := { name := "ytpjfampfhofeaaa", sum := "8bbbc0337a416714f9b6214d27fd7b6293f6d64880813b6621602023f3e272f2", checked := Try.checked }
namespace Rows
def none {H : Type} : Left H := { results := [], args := [] }

/-- 'laws.FnRanks': WHATEVER THE INPUT: true; the input reads as it did. -/
def fnRanksSpec : ChangeSpec := { name := "fnRanks", fn := fun _ => fun
  | [d] => { results := [.lit (.bool true)], args := [d] }
  | _ => none }
def fnRanksRow : OpenClaim := { program := "ytpjfampfhofeaaa", sum := "8bbbc0337a416714f9b6214d27fd7b6293f6d64880813b6621602023f3e272f2", func := "loop.example/g00454/laws.FnRanks", spec := "fnRanks", unfollowed := true, recurses := true, apart := false }
def FnRanksSaid : Prop := fnRanksRow.holds Try.pinned (OpenSpec.ofChange fnRanksSpec)

/-- ITS FALSE NEIGHBOUR: 'it returns false'. Refute it at one input. -/
def fnRanksWrong : ChangeSpec := { name := "fnRanks", fn := fun _ => fun
  | [d] => { results := [.lit (.bool false)], args := [d] }
  | _ => none }
def FnRanksWrongFalsely : Prop := fnRanksRow.holds Try.pinned (OpenSpec.ofChange fnRanksWrong)

/-- 'laws.FnCharge': WHATEVER THE INPUT: true; the input reads as it did. -/
def fnChargeSpec : ChangeSpec := { name := "fnCharge", fn := fun _ => fun
  | [d] => { results := [.lit (.bool true)], args := [d] }
  | _ => none }
def fnChargeRow : OpenClaim := { program := "ytpjfampfhofeaaa", sum := "8bbbc0337a416714f9b6214d27fd7b6293f6d64880813b6621602023f3e272f2", func := "loop.example/g00454/laws.FnCharge", spec := "fnCharge", unfollowed := true, recurses := true, apart := false }
def FnChargeSaid : Prop := fnChargeRow.holds Try.pinned (OpenSpec.ofChange fnChargeSpec)

/-- ITS FALSE NEIGHBOUR: 'it returns false'. Refute it at one input. -/
def fnChargeWrong : ChangeSpec := { name := "fnCharge", fn := fun _ => fun
  | [d] => { results := [.lit (.bool false)], args := [d] }
  | _ => none }
def FnChargeWrongFalsely : Prop := fnChargeRow.holds Try.pinned (OpenSpec.ofChange fnChargeWrong)

/-- 'laws.FnExactWordOk': WHATEVER THE INPUT: true; the input reads as it did. -/
def fnExactWordOkSpec : ChangeSpec := { name := "fnExactWordOk", fn := fun _ => fun
  | [d] => { results := [.lit (.bool true)], args := [d] }
  | _ => none }
def fnExactWordOkRow : OpenClaim := { program := "ytpjfampfhofeaaa", sum := "8bbbc0337a416714f9b6214d27fd7b6293f6d64880813b6621602023f3e272f2", func := "loop.example/g00454/laws.FnExactWordOk", spec := "fnExactWordOk", unfollowed := true, recurses := true, apart := false }
def FnExactWordOkSaid : Prop := fnExactWordOkRow.holds Try.pinned (OpenSpec.ofChange fnExactWordOkSpec)

/-- ITS FALSE NEIGHBOUR: 'it returns false'. Refute it at one input. -/
def fnExactWordOkWrong : ChangeSpec := { name := "fnExactWordOk", fn := fun _ => fun
  | [d] => { results := [.lit (.bool false)], args := [d] }
  | _ => none }
def FnExactWordOkWrongFalsely : Prop := fnExactWordOkRow.holds Try.pinned (OpenSpec.ofChange fnExactWordOkWrong)

/-- 'laws.FnExactAccountsOk': WHATEVER THE INPUT: true; the input reads as it did. -/
def fnExactAccountsOkSpec : ChangeSpec := { name := "fnExactAccountsOk", fn := fun _ => fun
  | [d] => { results := [.lit (.bool true)], args := [d] }
  | _ => none }
def fnExactAccountsOkRow : OpenClaim := { program := "ytpjfampfhofeaaa", sum := "8bbbc0337a416714f9b6214d27fd7b6293f6d64880813b6621602023f3e272f2", func := "loop.example/g00454/laws.FnExactAccountsOk", spec := "fnExactAccountsOk", unfollowed := true, recurses := true, apart := false }
def FnExactAccountsOkSaid : Prop := fnExactAccountsOkRow.holds Try.pinned (OpenSpec.ofChange fnExactAccountsOkSpec)

/-- ITS FALSE NEIGHBOUR: 'it returns false'. Refute it at one input. -/
def fnExactAccountsOkWrong : ChangeSpec := { name := "fnExactAccountsOk", fn := fun _ => fun
  | [d] => { results := [.lit (.bool false)], args := [d] }
  | _ => none }
def FnExactAccountsOkWrongFalsely : Prop := fnExactAccountsOkRow.holds Try.pinned (OpenSpec.ofChange fnExactAccountsOkWrong)

/-- 'laws.FnExactAccountAt': WHATEVER THE INPUT: true; the input reads as it did. -/
def fnExactAccountAtSpec : ChangeSpec := { name := "fnExactAccountAt", fn := fun _ => fun
  | [d1, d2] => { results := [.lit (.bool true)], args := [d1, d2] }
  | _ => none }
def fnExactAccountAtRow : OpenClaim := { program := "ytpjfampfhofeaaa", sum := "8bbbc0337a416714f9b6214d27fd7b6293f6d64880813b6621602023f3e272f2", func := "loop.example/g00454/laws.FnExactAccountAt", spec := "fnExactAccountAt", unfollowed := true, recurses := true, apart := false }
def FnExactAccountAtSaid : Prop := fnExactAccountAtRow.holds Try.pinned (OpenSpec.ofChange fnExactAccountAtSpec)

/-- ITS FALSE NEIGHBOUR: 'it returns false'. Refute it at one input. -/
def fnExactAccountAtWrong : ChangeSpec := { name := "fnExactAccountAt", fn := fun _ => fun
  | [d1, d2] => { results := [.lit (.bool false)], args := [d1, d2] }
  | _ => none }
def FnExactAccountAtWrongFalsely : Prop := fnExactAccountAtRow.holds Try.pinned (OpenSpec.ofChange fnExactAccountAtWrong)

/-- 'laws.FnExactCharge': WHATEVER THE INPUT: true; the input reads as it did. -/
def fnExactChargeSpec : ChangeSpec := { name := "fnExactCharge", fn := fun _ => fun
  | [d1, d2, d3] => { results := [.lit (.bool true)], args := [d1, d2, d3] }
  | _ => none }
def fnExactChargeRow : OpenClaim := { program := "ytpjfampfhofeaaa", sum := "8bbbc0337a416714f9b6214d27fd7b6293f6d64880813b6621602023f3e272f2", func := "loop.example/g00454/laws.FnExactCharge", spec := "fnExactCharge", unfollowed := true, recurses := true, apart := false }
def FnExactChargeSaid : Prop := fnExactChargeRow.holds Try.pinned (OpenSpec.ofChange fnExactChargeSpec)

/-- ITS FALSE NEIGHBOUR: 'it returns false'. Refute it at one input. -/
def fnExactChargeWrong : ChangeSpec := { name := "fnExactCharge", fn := fun _ => fun
  | [d1, d2, d3] => { results := [.lit (.bool false)], args := [d1, d2, d3] }
  | _ => none }
def FnExactChargeWrongFalsely : Prop := fnExactChargeRow.holds Try.pinned (OpenSpec.ofChange fnExactChargeWrong)

/-- 'laws.FnExactFade': WHATEVER THE INPUT: true; the input reads as it did. -/
def fnExactFadeSpec : ChangeSpec := { name := "fnExactFade", fn := fun _ => fun
  | [d] => { results := [.lit (.bool true)], args := [d] }
  | _ => none }
def fnExactFadeRow : OpenClaim := { program := "ytpjfampfhofeaaa", sum := "8bbbc0337a416714f9b6214d27fd7b6293f6d64880813b6621602023f3e272f2", func := "loop.example/g00454/laws.FnExactFade", spec := "fnExactFade", unfollowed := true, recurses := true, apart := false }
def FnExactFadeSaid : Prop := fnExactFadeRow.holds Try.pinned (OpenSpec.ofChange fnExactFadeSpec)

/-- ITS FALSE NEIGHBOUR: 'it returns false'. Refute it at one input. -/
def fnExactFadeWrong : ChangeSpec := { name := "fnExactFade", fn := fun _ => fun
  | [d] => { results := [.lit (.bool false)], args := [d] }
  | _ => none }
def FnExactFadeWrongFalsely : Prop := fnExactFadeRow.holds Try.pinned (OpenSpec.ofChange fnExactFadeWrong)

/-- 'laws.FnExactRanks': WHATEVER THE INPUT: true; the input reads as it did. -/
def fnExactRanksSpec : ChangeSpec := { name := "fnExactRanks", fn := fun _ => fun
  | [d] => { results := [.lit (.bool true)], args := [d] }
  | _ => none }
def fnExactRanksRow : OpenClaim := { program := "ytpjfampfhofeaaa", sum := "8bbbc0337a416714f9b6214d27fd7b6293f6d64880813b6621602023f3e272f2", func := "loop.example/g00454/laws.FnExactRanks", spec := "fnExactRanks", unfollowed := true, recurses := true, apart := false }
def FnExactRanksSaid : Prop := fnExactRanksRow.holds Try.pinned (OpenSpec.ofChange fnExactRanksSpec)

/-- ITS FALSE NEIGHBOUR: 'it returns false'. Refute it at one input. -/
def fnExactRanksWrong : ChangeSpec := { name := "fnExactRanks", fn := fun _ => fun
  | [d] => { results := [.lit (.bool false)], args := [d] }
  | _ => none }
def FnExactRanksWrongFalsely : Prop := fnExactRanksRow.holds Try.pinned (OpenSpec.ofChange fnExactRanksWrong)

/-- 'laws.FnExactRankPrio': WHATEVER THE INPUT: true; the input reads as it did. -/
def fnExactRankPrioSpec : ChangeSpec := { name := "fnExactRankPrio", fn := fun _ => fun
  | [d1, d2, d3] => { results := [.lit (.bool true)], args := [d1, d2, d3] }
  | _ => none }
def fnExactRankPrioRow : OpenClaim := { program := "ytpjfampfhofeaaa", sum := "8bbbc0337a416714f9b6214d27fd7b6293f6d64880813b6621602023f3e272f2", func := "loop.example/g00454/laws.FnExactRankPrio", spec := "fnExactRankPrio", unfollowed := true, recurses := true, apart := false }
def FnExactRankPrioSaid : Prop := fnExactRankPrioRow.holds Try.pinned (OpenSpec.ofChange fnExactRankPrioSpec)

/-- ITS FALSE NEIGHBOUR: 'it returns false'. Refute it at one input. -/
def fnExactRankPrioWrong : ChangeSpec := { name := "fnExactRankPrio", fn := fun _ => fun
  | [d1, d2, d3] => { results := [.lit (.bool false)], args := [d1, d2, d3] }
  | _ => none }
def FnExactRankPrioWrongFalsely : Prop := fnExactRankPrioRow.holds Try.pinned (OpenSpec.ofChange fnExactRankPrioWrong)

/- THE SECOND FORM. 'bulk': how many values and letters a reading holds, each counted each time it is reached (what is shared counts as often as it is met; a slice's spare places count too). A statement '..UptoSaid' is the law's where the arguments, and the package variables that the reading takes, are together of bulk at most 1048576: NARROWER than '..Said'. Prove '..Said' where nothing that the law and all that it calls make is longer than what came in: it says more and counts as full. Else prove '..UptoSaid'. A law counts once. -/
mutual
def uptoBulk {H : Type} : DataW H → Nat
  | .lit (.string bytes) => bytes.length + 1
  | .lit _ => 1
  | .nil => 1
  | .ptr d => uptoBulk d + 1
  | .slice elems spare => uptoBulkAll elems + uptoBulkAll spare + 1
  | .agg parts => uptoBulkAll parts + 1
  | .iface _ d => uptoBulk d + 1
  | .map entries => uptoBulkEntries entries + 1
  | .held _ => 1
def uptoBulkAll {H : Type} : List (DataW H) → Nat
  | [] => 0
  | d :: r => uptoBulk d + uptoBulkAll r
def uptoBulkEntries {H : Type} : List (Lit × DataW H) → Nat
  | [] => 0
  | x :: r => uptoBulkEntry x + uptoBulkEntries r
def uptoBulkEntry {H : Type} : Lit × DataW H → Nat
  | (.string bytes, d) => bytes.length + uptoBulk d + 1
  | (_, d) => uptoBulk d + 1
 end
def uptoSmall : (H : Type) → List (DataW H) → Bool := fun _ ds => decide (uptoBulkAll ds ≤ 1048576)
def OpenSpec.upto (s : _root_.Go.ChangeSpec) : _root_.Go.OpenSpec := { _root_.Go.OpenSpec.ofChange s with cond := some uptoSmall }

/-- 'laws.FnRanks', WHERE WHAT IT READS IS OF BULK AT MOST 1048576: true; the input reads as it did. -/
def fnRanksUptoRow : OpenClaim := { program := "ytpjfampfhofeaaa", sum := "8bbbc0337a416714f9b6214d27fd7b6293f6d64880813b6621602023f3e272f2", func := "loop.example/g00454/laws.FnRanks", spec := "fnRanks", unfollowed := true, recurses := true, apart := false, narrowed := true }
def FnRanksUptoSaid : Prop := fnRanksUptoRow.holds Try.pinned (OpenSpec.upto fnRanksSpec)

/-- 'laws.FnCharge', WHERE WHAT IT READS IS OF BULK AT MOST 1048576: true; the input reads as it did. -/
def fnChargeUptoRow : OpenClaim := { program := "ytpjfampfhofeaaa", sum := "8bbbc0337a416714f9b6214d27fd7b6293f6d64880813b6621602023f3e272f2", func := "loop.example/g00454/laws.FnCharge", spec := "fnCharge", unfollowed := true, recurses := true, apart := false, narrowed := true }
def FnChargeUptoSaid : Prop := fnChargeUptoRow.holds Try.pinned (OpenSpec.upto fnChargeSpec)

/-- 'laws.FnExactWordOk', WHERE WHAT IT READS IS OF BULK AT MOST 1048576: true; the input reads as it did. -/
def fnExactWordOkUptoRow : OpenClaim := { program := "ytpjfampfhofeaaa", sum := "8bbbc0337a416714f9b6214d27fd7b6293f6d64880813b6621602023f3e272f2", func := "loop.example/g00454/laws.FnExactWordOk", spec := "fnExactWordOk", unfollowed := true, recurses := true, apart := false, narrowed := true }
def FnExactWordOkUptoSaid : Prop := fnExactWordOkUptoRow.holds Try.pinned (OpenSpec.upto fnExactWordOkSpec)

/-- 'laws.FnExactAccountsOk', WHERE WHAT IT READS IS OF BULK AT MOST 1048576: true; the input reads as it did. -/
def fnExactAccountsOkUptoRow : OpenClaim := { program := "ytpjfampfhofeaaa", sum := "8bbbc0337a416714f9b6214d27fd7b6293f6d64880813b6621602023f3e272f2", func := "loop.example/g00454/laws.FnExactAccountsOk", spec := "fnExactAccountsOk", unfollowed := true, recurses := true, apart := false, narrowed := true }
def FnExactAccountsOkUptoSaid : Prop := fnExactAccountsOkUptoRow.holds Try.pinned (OpenSpec.upto fnExactAccountsOkSpec)

/-- 'laws.FnExactAccountAt', WHERE WHAT IT READS IS OF BULK AT MOST 1048576: true; the input reads as it did. -/
def fnExactAccountAtUptoRow : OpenClaim := { program := "ytpjfampfhofeaaa", sum := "8bbbc0337a416714f9b6214d27fd7b6293f6d64880813b6621602023f3e272f2", func := "loop.example/g00454/laws.FnExactAccountAt", spec := "fnExactAccountAt", unfollowed := true, recurses := true, apart := false, narrowed := true }
def FnExactAccountAtUptoSaid : Prop := fnExactAccountAtUptoRow.holds Try.pinned (OpenSpec.upto fnExactAccountAtSpec)

/-- 'laws.FnExactCharge', WHERE WHAT IT READS IS OF BULK AT MOST 1048576: true; the input reads as it did. -/
def fnExactChargeUptoRow : OpenClaim := { program := "ytpjfampfhofeaaa", sum := "8bbbc0337a416714f9b6214d27fd7b6293f6d64880813b6621602023f3e272f2", func := "loop.example/g00454/laws.FnExactCharge", spec := "fnExactCharge", unfollowed := true, recurses := true, apart := false, narrowed := true }
def FnExactChargeUptoSaid : Prop := fnExactChargeUptoRow.holds Try.pinned (OpenSpec.upto fnExactChargeSpec)

/-- 'laws.FnExactFade', WHERE WHAT IT READS IS OF BULK AT MOST 1048576: true; the input reads as it did. -/
def fnExactFadeUptoRow : OpenClaim := { program := "ytpjfampfhofeaaa", sum := "8bbbc0337a416714f9b6214d27fd7b6293f6d64880813b6621602023f3e272f2", func := "loop.example/g00454/laws.FnExactFade", spec := "fnExactFade", unfollowed := true, recurses := true, apart := false, narrowed := true }
def FnExactFadeUptoSaid : Prop := fnExactFadeUptoRow.holds Try.pinned (OpenSpec.upto fnExactFadeSpec)

/-- 'laws.FnExactRanks', WHERE WHAT IT READS IS OF BULK AT MOST 1048576: true; the input reads as it did. -/
def fnExactRanksUptoRow : OpenClaim := { program := "ytpjfampfhofeaaa", sum := "8bbbc0337a416714f9b6214d27fd7b6293f6d64880813b6621602023f3e272f2", func := "loop.example/g00454/laws.FnExactRanks", spec := "fnExactRanks", unfollowed := true, recurses := true, apart := false, narrowed := true }
def FnExactRanksUptoSaid : Prop := fnExactRanksUptoRow.holds Try.pinned (OpenSpec.upto fnExactRanksSpec)

/-- 'laws.FnExactRankPrio', WHERE WHAT IT READS IS OF BULK AT MOST 1048576: true; the input reads as it did. -/
def fnExactRankPrioUptoRow : OpenClaim := { program := "ytpjfampfhofeaaa", sum := "8bbbc0337a416714f9b6214d27fd7b6293f6d64880813b6621602023f3e272f2", func := "loop.example/g00454/laws.FnExactRankPrio", spec := "fnExactRankPrio", unfollowed := true, recurses := true, apart := false, narrowed := true }
def FnExactRankPrioUptoSaid : Prop := fnExactRankPrioUptoRow.holds Try.pinned (OpenSpec.upto fnExactRankPrioSpec)

end Rows
end Go.Proofs.Ytpjfampfhofeaaa
