/-
  DERIVED. GIVEN WITH THE SEED: THE CARDS: each row of YtiblegdhaiajnadDoorRows.lean that lists a variable, with what it lists TIED to the program's text (the seventh form; the later family's looks); each row that meets fmt, with fmt's text TOLD by the authors' own Lean function (tested against real Go, not proved from fmt's source: count such statements apart). THE CARD IS WHAT COUNTS. Prove the row's statement (the work); the ties are given (YtiblegdhaiajnadDoorTie.lean); close each card by the builder's one call (the guide's Derived/Test/ToyasCard.lean, 'card_holds'). Laid BY PROGRAM, IN A SANDBOX (cutbox-door.mjs). By AI agents, Wed Nov 11 2026. No macro, syntax, notation, axiom, sorry.
-/
import Derived.Test.YtiblegdhaiajnadDoorRows
import GoSem.ClaimSeven
namespace Go.Proofs.YtiblegdhaiajnadDoor
namespace Rows

/-- THE TIED CARD OF 'laws.FnVec'. -/
def fnVecCard : Claim7 := { stood := { row := fnVecRow, standIns := [], harness := (true, "fb6a388d420516400029bf579ef0922f3af3cdc3a89a8d097288e0ce442bfba3"), looks := true }, kinds := [], alts := [], laidByText := true, laidKinds := [.data, .data, .data, .data, .sentinel, .sentinel, .pinned], laidTests := true, laidLooks := .later }
def FnVecCardSaid : Prop := Claim7.holds Tryd.pinned (.plain (OpenSpec.ofChange fnVecSpec)) fnVecCard

/-- THE TIED CARD OF 'laws.FnParts'. -/
def fnPartsCard : Claim7 := { stood := { row := fnPartsRow, standIns := [], harness := (true, "fb6a388d420516400029bf579ef0922f3af3cdc3a89a8d097288e0ce442bfba3"), looks := true }, kinds := [], alts := [], laidByText := true, laidKinds := [.data, .pinned], laidTests := true, laidLooks := .later }
def FnPartsCardSaid : Prop := Claim7.holds Tryd.pinned (.plain (OpenSpec.ofChange fnPartsSpec)) fnPartsCard

/-- THE SECOND FORM's CARD OF 'laws.FnVec'. -/
def fnVecUptoCard : Claim7 := { stood := { row := fnVecUptoRow, standIns := [], harness := (true, "fb6a388d420516400029bf579ef0922f3af3cdc3a89a8d097288e0ce442bfba3"), looks := true }, kinds := [], alts := [], laidByText := true, laidKinds := [.data, .data, .data, .data, .sentinel, .sentinel, .pinned], laidTests := true, laidLooks := .later }
def FnVecUptoCardSaid : Prop := Claim7.holds Tryd.pinned (.plain (OpenSpec.upto fnVecSpec)) fnVecUptoCard

/-- THE SECOND FORM's CARD OF 'laws.FnParts'. -/
def fnPartsUptoCard : Claim7 := { stood := { row := fnPartsUptoRow, standIns := [], harness := (true, "fb6a388d420516400029bf579ef0922f3af3cdc3a89a8d097288e0ce442bfba3"), looks := true }, kinds := [], alts := [], laidByText := true, laidKinds := [.data, .pinned], laidTests := true, laidLooks := .later }
def FnPartsUptoCardSaid : Prop := Claim7.holds Tryd.pinned (.plain (OpenSpec.upto fnPartsSpec)) fnPartsUptoCard
end Rows
end Go.Proofs.YtiblegdhaiajnadDoor
