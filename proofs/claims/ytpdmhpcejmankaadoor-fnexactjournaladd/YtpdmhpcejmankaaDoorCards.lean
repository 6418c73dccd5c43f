/-
  DERIVED. GIVEN WITH THE SEED: THE CARDS: each row of YtpdmhpcejmankaaDoorRows.lean that lists a variable, with what it lists TIED to the program's text (the seventh form; the later family's looks); each row that meets fmt, with fmt's text TOLD by the authors' own Lean function (tested against real Go, not proved from fmt's source: count such statements apart). THE CARD IS WHAT COUNTS. Prove the row's statement (the work); the ties are given (YtpdmhpcejmankaaDoorTie.lean); close each card by the builder's one call (the guide's Derived/Test/ToyasCard.lean, 'card_holds'). Laid BY PROGRAM, IN A SANDBOX (cutbox-door.mjs). By AI agents, Wed Nov 11 2026. No macro, syntax, notation, axiom, sorry.
-/
import Derived.Test.YtpdmhpcejmankaaDoorRows
import GoSem.ClaimSeven
namespace Go.Proofs.YtpdmhpcejmankaaDoor
namespace Rows

/-- THE TIED CARD OF 'laws.FnJournal'. -/
def fnJournalCard : Claim7 := { stood := { row := fnJournalRow, standIns := [], harness := (true, "24720c13fa263a4bc12d745f2d8c170e855de03fa3d1f385d513b94021ca7309"), looks := false }, kinds := [], alts := [], laidByText := true, laidKinds := [.data, .data, .data], laidTests := true, laidLooks := .later }
def FnJournalCardSaid : Prop := Claim7.holds Tryd.pinned (.plain (OpenSpec.ofChange fnJournalSpec)) fnJournalCard

/-- THE TIED CARD OF 'laws.FnExactReadRecords'. -/
def fnExactReadRecordsCard : Claim7 := { stood := { row := fnExactReadRecordsRow, standIns := [], harness := (true, "24720c13fa263a4bc12d745f2d8c170e855de03fa3d1f385d513b94021ca7309"), looks := false }, kinds := [], alts := [], laidByText := true, laidKinds := [.data, .data, .data], laidTests := true, laidLooks := .later }
def FnExactReadRecordsCardSaid : Prop := Claim7.holds Tryd.pinned (.plain (OpenSpec.ofChange fnExactReadRecordsSpec)) fnExactReadRecordsCard

/-- THE TIED CARD OF 'laws.FnExactJournalOk'. -/
def fnExactJournalOkCard : Claim7 := { stood := { row := fnExactJournalOkRow, standIns := [], harness := (true, "24720c13fa263a4bc12d745f2d8c170e855de03fa3d1f385d513b94021ca7309"), looks := false }, kinds := [], alts := [], laidByText := true, laidKinds := [.data, .data, .data], laidTests := true, laidLooks := .later }
def FnExactJournalOkCardSaid : Prop := Claim7.holds Tryd.pinned (.plain (OpenSpec.ofChange fnExactJournalOkSpec)) fnExactJournalOkCard

/-- THE TIED CARD OF 'laws.FnExactJournalOpen'. -/
def fnExactJournalOpenCard : Claim7 := { stood := { row := fnExactJournalOpenRow, standIns := [], harness := (true, "24720c13fa263a4bc12d745f2d8c170e855de03fa3d1f385d513b94021ca7309"), looks := false }, kinds := [], alts := [], laidByText := true, laidKinds := [.data, .data, .data], laidTests := true, laidLooks := .later }
def FnExactJournalOpenCardSaid : Prop := Claim7.holds Tryd.pinned (.plain (OpenSpec.ofChange fnExactJournalOpenSpec)) fnExactJournalOpenCard

/-- THE TIED CARD OF 'laws.FnExactJournalAdd'. -/
def fnExactJournalAddCard : Claim7 := { stood := { row := fnExactJournalAddRow, standIns := [], harness := (true, "24720c13fa263a4bc12d745f2d8c170e855de03fa3d1f385d513b94021ca7309"), looks := false }, kinds := [], alts := [], laidByText := true, laidKinds := [.data, .data, .data], laidTests := true, laidLooks := .later }
def FnExactJournalAddCardSaid : Prop := Claim7.holds Tryd.pinned (.plain (OpenSpec.ofChange fnExactJournalAddSpec)) fnExactJournalAddCard

/-- THE TIED CARD OF 'laws.FnExactJournalSync'. -/
def fnExactJournalSyncCard : Claim7 := { stood := { row := fnExactJournalSyncRow, standIns := [], harness := (true, "24720c13fa263a4bc12d745f2d8c170e855de03fa3d1f385d513b94021ca7309"), looks := false }, kinds := [], alts := [], laidByText := true, laidKinds := [.data, .data, .data], laidTests := true, laidLooks := .later }
def FnExactJournalSyncCardSaid : Prop := Claim7.holds Tryd.pinned (.plain (OpenSpec.ofChange fnExactJournalSyncSpec)) fnExactJournalSyncCard

/-- THE TIED CARD OF 'laws.FnExactJournalCrash'. -/
def fnExactJournalCrashCard : Claim7 := { stood := { row := fnExactJournalCrashRow, standIns := [], harness := (true, "24720c13fa263a4bc12d745f2d8c170e855de03fa3d1f385d513b94021ca7309"), looks := false }, kinds := [], alts := [], laidByText := true, laidKinds := [.data, .data, .data], laidTests := true, laidLooks := .later }
def FnExactJournalCrashCardSaid : Prop := Claim7.holds Tryd.pinned (.plain (OpenSpec.ofChange fnExactJournalCrashSpec)) fnExactJournalCrashCard

/-- THE SECOND FORM's CARD OF 'laws.FnJournal'. -/
def fnJournalUptoCard : Claim7 := { stood := { row := fnJournalUptoRow, standIns := [], harness := (true, "24720c13fa263a4bc12d745f2d8c170e855de03fa3d1f385d513b94021ca7309"), looks := false }, kinds := [], alts := [], laidByText := true, laidKinds := [.data, .data, .data], laidTests := true, laidLooks := .later }
def FnJournalUptoCardSaid : Prop := Claim7.holds Tryd.pinned (.plain (OpenSpec.upto fnJournalSpec)) fnJournalUptoCard

/-- THE SECOND FORM's CARD OF 'laws.FnExactReadRecords'. -/
def fnExactReadRecordsUptoCard : Claim7 := { stood := { row := fnExactReadRecordsUptoRow, standIns := [], harness := (true, "24720c13fa263a4bc12d745f2d8c170e855de03fa3d1f385d513b94021ca7309"), looks := false }, kinds := [], alts := [], laidByText := true, laidKinds := [.data, .data, .data], laidTests := true, laidLooks := .later }
def FnExactReadRecordsUptoCardSaid : Prop := Claim7.holds Tryd.pinned (.plain (OpenSpec.upto fnExactReadRecordsSpec)) fnExactReadRecordsUptoCard

/-- THE SECOND FORM's CARD OF 'laws.FnExactJournalOk'. -/
def fnExactJournalOkUptoCard : Claim7 := { stood := { row := fnExactJournalOkUptoRow, standIns := [], harness := (true, "24720c13fa263a4bc12d745f2d8c170e855de03fa3d1f385d513b94021ca7309"), looks := false }, kinds := [], alts := [], laidByText := true, laidKinds := [.data, .data, .data], laidTests := true, laidLooks := .later }
def FnExactJournalOkUptoCardSaid : Prop := Claim7.holds Tryd.pinned (.plain (OpenSpec.upto fnExactJournalOkSpec)) fnExactJournalOkUptoCard

/-- THE SECOND FORM's CARD OF 'laws.FnExactJournalOpen'. -/
def fnExactJournalOpenUptoCard : Claim7 := { stood := { row := fnExactJournalOpenUptoRow, standIns := [], harness := (true, "24720c13fa263a4bc12d745f2d8c170e855de03fa3d1f385d513b94021ca7309"), looks := false }, kinds := [], alts := [], laidByText := true, laidKinds := [.data, .data, .data], laidTests := true, laidLooks := .later }
def FnExactJournalOpenUptoCardSaid : Prop := Claim7.holds Tryd.pinned (.plain (OpenSpec.upto fnExactJournalOpenSpec)) fnExactJournalOpenUptoCard

/-- THE SECOND FORM's CARD OF 'laws.FnExactJournalAdd'. -/
def fnExactJournalAddUptoCard : Claim7 := { stood := { row := fnExactJournalAddUptoRow, standIns := [], harness := (true, "24720c13fa263a4bc12d745f2d8c170e855de03fa3d1f385d513b94021ca7309"), looks := false }, kinds := [], alts := [], laidByText := true, laidKinds := [.data, .data, .data], laidTests := true, laidLooks := .later }
def FnExactJournalAddUptoCardSaid : Prop := Claim7.holds Tryd.pinned (.plain (OpenSpec.upto fnExactJournalAddSpec)) fnExactJournalAddUptoCard

/-- THE SECOND FORM's CARD OF 'laws.FnExactJournalSync'. -/
def fnExactJournalSyncUptoCard : Claim7 := { stood := { row := fnExactJournalSyncUptoRow, standIns := [], harness := (true, "24720c13fa263a4bc12d745f2d8c170e855de03fa3d1f385d513b94021ca7309"), looks := false }, kinds := [], alts := [], laidByText := true, laidKinds := [.data, .data, .data], laidTests := true, laidLooks := .later }
def FnExactJournalSyncUptoCardSaid : Prop := Claim7.holds Tryd.pinned (.plain (OpenSpec.upto fnExactJournalSyncSpec)) fnExactJournalSyncUptoCard

/-- THE SECOND FORM's CARD OF 'laws.FnExactJournalCrash'. -/
def fnExactJournalCrashUptoCard : Claim7 := { stood := { row := fnExactJournalCrashUptoRow, standIns := [], harness := (true, "24720c13fa263a4bc12d745f2d8c170e855de03fa3d1f385d513b94021ca7309"), looks := false }, kinds := [], alts := [], laidByText := true, laidKinds := [.data, .data, .data], laidTests := true, laidLooks := .later }
def FnExactJournalCrashUptoCardSaid : Prop := Claim7.holds Tryd.pinned (.plain (OpenSpec.upto fnExactJournalCrashSpec)) fnExactJournalCrashUptoCard
end Rows
end Go.Proofs.YtpdmhpcejmankaaDoor
