/-
  DERIVED. GIVEN WITH THE SEED: THE CARDS: each row of YtccilaffmonbdaaDoorRows.lean that lists a variable, with what it lists TIED to the program's text (the seventh form; the later family's looks); each row that meets fmt, with fmt's text TOLD by the authors' own Lean function (tested against real Go, not proved from fmt's source: count such statements apart). THE CARD IS WHAT COUNTS. Prove the row's statement (the work); the ties are given (YtccilaffmonbdaaDoorTie.lean); close each card by the builder's one call (the guide's Derived/Test/ToyasCard.lean, 'card_holds'). Laid BY PROGRAM, IN A SANDBOX (cutbox-door.mjs). By AI agents, Wed Nov 11 2026. No macro, syntax, notation, axiom, sorry.
-/
import Derived.Test.YtccilaffmonbdaaDoorRows
import GoSem.ClaimSeven
namespace Go.Proofs.YtccilaffmonbdaaDoor
namespace Rows

/-- THE TIED CARD OF 'laws.FnJournal'. -/
def fnJournalCard : Claim7 := { stood := { row := fnJournalRow, standIns := [], harness := (true, "070679768f5508a583696cbee8f17de298ba1c5d12080d3f5aa841295febd31d"), looks := true }, kinds := [], alts := [], laidByText := true, laidKinds := [.data, .data, .data], laidTests := true, laidLooks := .later }
def FnJournalCardSaid : Prop := Claim7.holds Tryd.pinned (.plain (OpenSpec.ofChange fnJournalSpec)) fnJournalCard

/-- THE TIED CARD OF 'laws.FnCmd'. -/
def fnCmdCard : Claim7 := { stood := { row := fnCmdRow, standIns := [], harness := (true, "070679768f5508a583696cbee8f17de298ba1c5d12080d3f5aa841295febd31d"), looks := true }, kinds := [], alts := [], laidByText := true, laidKinds := [.data, .data, .data, .data, .sentinel, .sentinel, .data, .pinned], laidTests := true, laidLooks := .later }
def FnCmdCardSaid : Prop := Claim7.holds Tryd.pinned (.plain (OpenSpec.ofChange fnCmdSpec)) fnCmdCard

/-- THE TIED CARD OF 'laws.FnExactCmdText'. -/
def fnExactCmdTextCard : Claim7 := { stood := { row := fnExactCmdTextRow, standIns := [], harness := (true, "070679768f5508a583696cbee8f17de298ba1c5d12080d3f5aa841295febd31d"), looks := true }, kinds := [], alts := [], laidByText := true, laidKinds := [.data, .data, .data, .data], laidTests := true, laidLooks := .later }
def FnExactCmdTextCardSaid : Prop := Claim7.holds Tryd.pinned (.plain (OpenSpec.ofChange fnExactCmdTextSpec)) fnExactCmdTextCard

/-- THE TIED CARD OF 'laws.FnExactTextCmd'. -/
def fnExactTextCmdCard : Claim7 := { stood := { row := fnExactTextCmdRow, standIns := [], harness := (true, "070679768f5508a583696cbee8f17de298ba1c5d12080d3f5aa841295febd31d"), looks := true }, kinds := [], alts := [], laidByText := true, laidKinds := [.data, .data, .data, .data, .sentinel, .sentinel, .data, .pinned], laidTests := true, laidLooks := .later }
def FnExactTextCmdCardSaid : Prop := Claim7.holds Tryd.pinned (.plain (OpenSpec.ofChange fnExactTextCmdSpec)) fnExactTextCmdCard

/-- THE SECOND FORM's CARD OF 'laws.FnJournal'. -/
def fnJournalUptoCard : Claim7 := { stood := { row := fnJournalUptoRow, standIns := [], harness := (true, "070679768f5508a583696cbee8f17de298ba1c5d12080d3f5aa841295febd31d"), looks := true }, kinds := [], alts := [], laidByText := true, laidKinds := [.data, .data, .data], laidTests := true, laidLooks := .later }
def FnJournalUptoCardSaid : Prop := Claim7.holds Tryd.pinned (.plain (OpenSpec.upto fnJournalSpec)) fnJournalUptoCard

/-- THE SECOND FORM's CARD OF 'laws.FnCmd'. -/
def fnCmdUptoCard : Claim7 := { stood := { row := fnCmdUptoRow, standIns := [], harness := (true, "070679768f5508a583696cbee8f17de298ba1c5d12080d3f5aa841295febd31d"), looks := true }, kinds := [], alts := [], laidByText := true, laidKinds := [.data, .data, .data, .data, .sentinel, .sentinel, .data, .pinned], laidTests := true, laidLooks := .later }
def FnCmdUptoCardSaid : Prop := Claim7.holds Tryd.pinned (.plain (OpenSpec.upto fnCmdSpec)) fnCmdUptoCard

/-- THE SECOND FORM's CARD OF 'laws.FnExactCmdText'. -/
def fnExactCmdTextUptoCard : Claim7 := { stood := { row := fnExactCmdTextUptoRow, standIns := [], harness := (true, "070679768f5508a583696cbee8f17de298ba1c5d12080d3f5aa841295febd31d"), looks := true }, kinds := [], alts := [], laidByText := true, laidKinds := [.data, .data, .data, .data], laidTests := true, laidLooks := .later }
def FnExactCmdTextUptoCardSaid : Prop := Claim7.holds Tryd.pinned (.plain (OpenSpec.upto fnExactCmdTextSpec)) fnExactCmdTextUptoCard

/-- THE SECOND FORM's CARD OF 'laws.FnExactTextCmd'. -/
def fnExactTextCmdUptoCard : Claim7 := { stood := { row := fnExactTextCmdUptoRow, standIns := [], harness := (true, "070679768f5508a583696cbee8f17de298ba1c5d12080d3f5aa841295febd31d"), looks := true }, kinds := [], alts := [], laidByText := true, laidKinds := [.data, .data, .data, .data, .sentinel, .sentinel, .data, .pinned], laidTests := true, laidLooks := .later }
def FnExactTextCmdUptoCardSaid : Prop := Claim7.holds Tryd.pinned (.plain (OpenSpec.upto fnExactTextCmdSpec)) fnExactTextCmdUptoCard
end Rows
end Go.Proofs.YtccilaffmonbdaaDoor
