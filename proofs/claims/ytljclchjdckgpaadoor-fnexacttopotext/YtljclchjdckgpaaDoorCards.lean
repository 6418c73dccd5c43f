/-
  DERIVED. GIVEN WITH THE SEED: THE CARDS: each row of YtljclchjdckgpaaDoorRows.lean that lists a variable, with what it lists TIED to the program's text (the seventh form; the later family's looks); each row that meets fmt, with fmt's text TOLD by the authors' own Lean function (tested against real Go, not proved from fmt's source: count such statements apart). THE CARD IS WHAT COUNTS. Prove the row's statement (the work); the ties are given (YtljclchjdckgpaaDoorTie.lean); close each card by the builder's one call (the guide's Derived/Test/ToyasCard.lean, 'card_holds'). Laid BY PROGRAM, IN A SANDBOX (cutbox-door.mjs). By AI agents, Wed Nov 11 2026. No macro, syntax, notation, axiom, sorry.
-/
import Derived.Test.YtljclchjdckgpaaDoorRows
import GoSem.ClaimSeven
namespace Go.Proofs.YtljclchjdckgpaaDoor
namespace Rows

/-- THE TIED CARD OF 'laws.FnTopo'. -/
def fnTopoCard : Claim7 := { stood := { row := fnTopoRow, standIns := [], harness := (true, "b04d5de1945343c723b4331100b59e796a684931177b3ac1d616424bda6b178b"), looks := true }, kinds := [], alts := [], laidByText := true, laidKinds := [.data, .data, .data, .data, .sentinel, .sentinel, .pinned], laidTests := true, laidLooks := .later }
def FnTopoCardSaid : Prop := Claim7.holds Tryd.pinned (.plain (OpenSpec.ofChange fnTopoSpec)) fnTopoCard

/-- THE TIED CARD OF 'laws.FnExactTopoText'. -/
def fnExactTopoTextCard : Claim7 := { stood := { row := fnExactTopoTextRow, standIns := [], harness := (true, "b04d5de1945343c723b4331100b59e796a684931177b3ac1d616424bda6b178b"), looks := true }, kinds := [], alts := [], laidByText := true, laidKinds := [.data, .data, .data], laidTests := true, laidLooks := .later }
def FnExactTopoTextCardSaid : Prop := Claim7.holds Tryd.pinned (.plain (OpenSpec.ofChange fnExactTopoTextSpec)) fnExactTopoTextCard

/-- THE SECOND FORM's CARD OF 'laws.FnTopo'. -/
def fnTopoUptoCard : Claim7 := { stood := { row := fnTopoUptoRow, standIns := [], harness := (true, "b04d5de1945343c723b4331100b59e796a684931177b3ac1d616424bda6b178b"), looks := true }, kinds := [], alts := [], laidByText := true, laidKinds := [.data, .data, .data, .data, .sentinel, .sentinel, .pinned], laidTests := true, laidLooks := .later }
def FnTopoUptoCardSaid : Prop := Claim7.holds Tryd.pinned (.plain (OpenSpec.upto fnTopoSpec)) fnTopoUptoCard

/-- THE SECOND FORM's CARD OF 'laws.FnExactTopoText'. -/
def fnExactTopoTextUptoCard : Claim7 := { stood := { row := fnExactTopoTextUptoRow, standIns := [], harness := (true, "b04d5de1945343c723b4331100b59e796a684931177b3ac1d616424bda6b178b"), looks := true }, kinds := [], alts := [], laidByText := true, laidKinds := [.data, .data, .data], laidTests := true, laidLooks := .later }
def FnExactTopoTextUptoCardSaid : Prop := Claim7.holds Tryd.pinned (.plain (OpenSpec.upto fnExactTopoTextSpec)) fnExactTopoTextUptoCard
end Rows
end Go.Proofs.YtljclchjdckgpaaDoor
