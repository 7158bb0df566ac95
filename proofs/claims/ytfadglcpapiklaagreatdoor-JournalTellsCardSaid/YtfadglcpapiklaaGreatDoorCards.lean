/-
  DERIVED. GIVEN WITH THE SEED: THE CARDS: each row of YtfadglcpapiklaaGreatDoorRows.lean that lists a variable, with what it lists TIED to the program's text (the seventh form; the later family's looks); each row that meets fmt, with fmt's text TOLD by the authors' own Lean function (tested against real Go, not proved from fmt's source: count such statements apart). THE CARD IS WHAT COUNTS. Prove the row's statement (the work); the ties are given (YtfadglcpapiklaaGreatDoorTie.lean); close each card by the builder's one call (the guide's Derived/Test/ToyasCard.lean, 'card_holds'). Laid BY PROGRAM, IN A SANDBOX (cutbox-door.mjs). By AI agents, Wed Nov 11 2026. No macro, syntax, notation, axiom, sorry.
-/
import Derived.Test.YtfadglcpapiklaaGreatDoorRows
import GoSem.ClaimSeven
namespace Go.Proofs.YtfadglcpapiklaaGreatDoor
namespace Rows

/-- THE TIED CARD OF 'stavelaw12.JournalCopies'. -/
def journalCopiesCard : Claim7 := { stood := { row := journalCopiesRow, standIns := [], harness := (true, "887670b317392c7c75defdaa0a774d56395bc795bcd2422791ae5d2afa7b3fa1"), looks := false }, kinds := [], alts := [], laidByText := true, laidKinds := [.data, .pinned], laidTests := true, laidLooks := .later }
def JournalCopiesCardSaid : Prop := Claim7.holds Tryz.pinned (.plain (OpenSpec.ofChange journalCopiesSpec)) journalCopiesCard

/-- THE TIED CARD OF 'stavelaw12.JournalLoses'. -/
def journalLosesCard : Claim7 := { stood := { row := journalLosesRow, standIns := [], harness := (true, "887670b317392c7c75defdaa0a774d56395bc795bcd2422791ae5d2afa7b3fa1"), looks := false }, kinds := [], alts := [], laidByText := true, laidKinds := [.data, .pinned], laidTests := true, laidLooks := .later }
def JournalLosesCardSaid : Prop := Claim7.holds Tryz.pinned (.plain (OpenSpec.ofChange journalLosesSpec)) journalLosesCard

/-- THE TIED CARD OF 'stavelaw12.JournalAgain'. -/
def journalAgainCard : Claim7 := { stood := { row := journalAgainRow, standIns := [], harness := (true, "887670b317392c7c75defdaa0a774d56395bc795bcd2422791ae5d2afa7b3fa1"), looks := false }, kinds := [], alts := [], laidByText := true, laidKinds := [.data, .pinned], laidTests := true, laidLooks := .later }
def JournalAgainCardSaid : Prop := Claim7.holds Tryz.pinned (.plain (OpenSpec.ofChange journalAgainSpec)) journalAgainCard

/-- THE TIED CARD OF 'stavelaw12.JournalNewer'. -/
def journalNewerCard : Claim7 := { stood := { row := journalNewerRow, standIns := [], harness := (true, "887670b317392c7c75defdaa0a774d56395bc795bcd2422791ae5d2afa7b3fa1"), looks := false }, kinds := [], alts := [], laidByText := true, laidKinds := [.data, .pinned], laidTests := true, laidLooks := .later }
def JournalNewerCardSaid : Prop := Claim7.holds Tryz.pinned (.plain (OpenSpec.ofChange journalNewerSpec)) journalNewerCard

/-- THE TIED CARD OF 'stavelaw12.JournalForged'. -/
def journalForgedCard : Claim7 := { stood := { row := journalForgedRow, standIns := [], harness := (true, "887670b317392c7c75defdaa0a774d56395bc795bcd2422791ae5d2afa7b3fa1"), looks := false }, kinds := [], alts := [], laidByText := true, laidKinds := [.data, .pinned], laidTests := true, laidLooks := .later }
def JournalForgedCardSaid : Prop := Claim7.holds Tryz.pinned (.plain (OpenSpec.ofChange journalForgedSpec)) journalForgedCard

/-- THE TIED CARD OF 'stavelaw12.JournalTells'. -/
def journalTellsCard : Claim7 := { stood := { row := journalTellsRow, standIns := [], harness := (true, "887670b317392c7c75defdaa0a774d56395bc795bcd2422791ae5d2afa7b3fa1"), looks := false }, kinds := [], alts := [], laidByText := true, laidKinds := [.data, .pinned], laidTests := true, laidLooks := .later }
def JournalTellsCardSaid : Prop := Claim7.holds Tryz.pinned (.plain (OpenSpec.ofChange journalTellsSpec)) journalTellsCard

/-- THE SECOND FORM's CARD OF 'stavelaw12.JournalCopies'. -/
def journalCopiesUptoCard : Claim7 := { stood := { row := journalCopiesUptoRow, standIns := [], harness := (true, "887670b317392c7c75defdaa0a774d56395bc795bcd2422791ae5d2afa7b3fa1"), looks := false }, kinds := [], alts := [], laidByText := true, laidKinds := [.data, .pinned], laidTests := true, laidLooks := .later }
def JournalCopiesUptoCardSaid : Prop := Claim7.holds Tryz.pinned (.plain (OpenSpec.upto journalCopiesSpec)) journalCopiesUptoCard

/-- THE SECOND FORM's CARD OF 'stavelaw12.JournalLoses'. -/
def journalLosesUptoCard : Claim7 := { stood := { row := journalLosesUptoRow, standIns := [], harness := (true, "887670b317392c7c75defdaa0a774d56395bc795bcd2422791ae5d2afa7b3fa1"), looks := false }, kinds := [], alts := [], laidByText := true, laidKinds := [.data, .pinned], laidTests := true, laidLooks := .later }
def JournalLosesUptoCardSaid : Prop := Claim7.holds Tryz.pinned (.plain (OpenSpec.upto journalLosesSpec)) journalLosesUptoCard

/-- THE SECOND FORM's CARD OF 'stavelaw12.JournalAgain'. -/
def journalAgainUptoCard : Claim7 := { stood := { row := journalAgainUptoRow, standIns := [], harness := (true, "887670b317392c7c75defdaa0a774d56395bc795bcd2422791ae5d2afa7b3fa1"), looks := false }, kinds := [], alts := [], laidByText := true, laidKinds := [.data, .pinned], laidTests := true, laidLooks := .later }
def JournalAgainUptoCardSaid : Prop := Claim7.holds Tryz.pinned (.plain (OpenSpec.upto journalAgainSpec)) journalAgainUptoCard

/-- THE SECOND FORM's CARD OF 'stavelaw12.JournalNewer'. -/
def journalNewerUptoCard : Claim7 := { stood := { row := journalNewerUptoRow, standIns := [], harness := (true, "887670b317392c7c75defdaa0a774d56395bc795bcd2422791ae5d2afa7b3fa1"), looks := false }, kinds := [], alts := [], laidByText := true, laidKinds := [.data, .pinned], laidTests := true, laidLooks := .later }
def JournalNewerUptoCardSaid : Prop := Claim7.holds Tryz.pinned (.plain (OpenSpec.upto journalNewerSpec)) journalNewerUptoCard

/-- THE SECOND FORM's CARD OF 'stavelaw12.JournalForged'. -/
def journalForgedUptoCard : Claim7 := { stood := { row := journalForgedUptoRow, standIns := [], harness := (true, "887670b317392c7c75defdaa0a774d56395bc795bcd2422791ae5d2afa7b3fa1"), looks := false }, kinds := [], alts := [], laidByText := true, laidKinds := [.data, .pinned], laidTests := true, laidLooks := .later }
def JournalForgedUptoCardSaid : Prop := Claim7.holds Tryz.pinned (.plain (OpenSpec.upto journalForgedSpec)) journalForgedUptoCard

/-- THE SECOND FORM's CARD OF 'stavelaw12.JournalTells'. -/
def journalTellsUptoCard : Claim7 := { stood := { row := journalTellsUptoRow, standIns := [], harness := (true, "887670b317392c7c75defdaa0a774d56395bc795bcd2422791ae5d2afa7b3fa1"), looks := false }, kinds := [], alts := [], laidByText := true, laidKinds := [.data, .pinned], laidTests := true, laidLooks := .later }
def JournalTellsUptoCardSaid : Prop := Claim7.holds Tryz.pinned (.plain (OpenSpec.upto journalTellsSpec)) journalTellsUptoCard
end Rows
end Go.Proofs.YtfadglcpapiklaaGreatDoor
