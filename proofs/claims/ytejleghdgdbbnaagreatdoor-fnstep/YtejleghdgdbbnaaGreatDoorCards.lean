/-
  DERIVED. GIVEN WITH THE SEED: THE CARDS: each row of YtejleghdgdbbnaaGreatDoorRows.lean that lists a variable, with what it lists TIED to the program's text (the seventh form; the later family's looks); each row that meets fmt, with fmt's text TOLD by the authors' own Lean function (tested against real Go, not proved from fmt's source: count such statements apart). THE CARD IS WHAT COUNTS. Prove the row's statement (the work); the ties are given (YtejleghdgdbbnaaGreatDoorTie.lean); close each card by the builder's one call (the guide's Derived/Test/ToyasCard.lean, 'card_holds'). Laid BY PROGRAM, IN A SANDBOX (cutbox-door.mjs). By AI agents, Wed Nov 11 2026. No macro, syntax, notation, axiom, sorry.
-/
import Derived.Test.YtejleghdgdbbnaaGreatDoorRows
import GoSem.ClaimSeven
namespace Go.Proofs.YtejleghdgdbbnaaGreatDoor
namespace Rows

/-- THE TIED CARD OF 'laws.FnStep'. -/
def fnStepCard : Claim7 := { stood := { row := fnStepRow, standIns := [], harness := (true, "0a5ee543d29e92ff67f9fdd0b8e5e91c073cc355fea30aaf0e4bd03c6ba2c70b"), looks := true }, kinds := [], alts := [], laidByText := true, laidKinds := [.data, .data, .data, .data, .sentinel, .sentinel, .data, .data, .pinned], laidTests := true, laidLooks := .later }
def FnStepCardSaid : Prop := Claim7.holds Tryz.pinned (.plain (OpenSpec.ofChange fnStepSpec)) fnStepCard

/-- THE TIED CARD OF 'laws.FnExactTextStep'. -/
def fnExactTextStepCard : Claim7 := { stood := { row := fnExactTextStepRow, standIns := [], harness := (true, "0a5ee543d29e92ff67f9fdd0b8e5e91c073cc355fea30aaf0e4bd03c6ba2c70b"), looks := true }, kinds := [], alts := [], laidByText := true, laidKinds := [.data, .data, .data, .data, .sentinel, .sentinel, .data, .data, .pinned], laidTests := true, laidLooks := .later }
def FnExactTextStepCardSaid : Prop := Claim7.holds Tryz.pinned (.plain (OpenSpec.ofChange fnExactTextStepSpec)) fnExactTextStepCard

/-- THE SECOND FORM's CARD OF 'laws.FnStep'. -/
def fnStepUptoCard : Claim7 := { stood := { row := fnStepUptoRow, standIns := [], harness := (true, "0a5ee543d29e92ff67f9fdd0b8e5e91c073cc355fea30aaf0e4bd03c6ba2c70b"), looks := true }, kinds := [], alts := [], laidByText := true, laidKinds := [.data, .data, .data, .data, .sentinel, .sentinel, .data, .data, .pinned], laidTests := true, laidLooks := .later }
def FnStepUptoCardSaid : Prop := Claim7.holds Tryz.pinned (.plain (OpenSpec.upto fnStepSpec)) fnStepUptoCard

/-- THE SECOND FORM's CARD OF 'laws.FnExactTextStep'. -/
def fnExactTextStepUptoCard : Claim7 := { stood := { row := fnExactTextStepUptoRow, standIns := [], harness := (true, "0a5ee543d29e92ff67f9fdd0b8e5e91c073cc355fea30aaf0e4bd03c6ba2c70b"), looks := true }, kinds := [], alts := [], laidByText := true, laidKinds := [.data, .data, .data, .data, .sentinel, .sentinel, .data, .data, .pinned], laidTests := true, laidLooks := .later }
def FnExactTextStepUptoCardSaid : Prop := Claim7.holds Tryz.pinned (.plain (OpenSpec.upto fnExactTextStepSpec)) fnExactTextStepUptoCard
end Rows
end Go.Proofs.YtejleghdgdbbnaaGreatDoor
