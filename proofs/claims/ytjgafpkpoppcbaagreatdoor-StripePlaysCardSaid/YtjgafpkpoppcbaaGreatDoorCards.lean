/-
  DERIVED. GIVEN WITH THE SEED: THE CARDS: each row of YtjgafpkpoppcbaaGreatDoorRows.lean that lists a variable, with what it lists TIED to the program's text (the seventh form; the later family's looks); each row that meets fmt, with fmt's text TOLD by the authors' own Lean function (tested against real Go, not proved from fmt's source: count such statements apart). THE CARD IS WHAT COUNTS. Prove the row's statement (the work); the ties are given (YtjgafpkpoppcbaaGreatDoorTie.lean); close each card by the builder's one call (the guide's Derived/Test/ToyasCard.lean, 'card_holds'). Laid BY PROGRAM, IN A SANDBOX (cutbox-door.mjs). By AI agents, Wed Nov 11 2026. No macro, syntax, notation, axiom, sorry.
-/
import Derived.Test.YtjgafpkpoppcbaaGreatDoorRows
import GoSem.ClaimSeven
namespace Go.Proofs.YtjgafpkpoppcbaaGreatDoor
namespace Rows

/-- THE TIED CARD OF 'stavelaw13.StripePlays'. -/
def stripePlaysCard : Claim7 := { stood := { row := stripePlaysRow, standIns := [], harness := (true, "187671d3b68ff84215535281f91a1a44a8a6ba1f8f430471c4cad7f3731066b6"), looks := false }, kinds := [], alts := [], laidByText := true, laidKinds := [.data, .data], laidTests := true, laidLooks := .later }
def StripePlaysCardSaid : Prop := Claim7.holds Tryz.pinned (.plain (OpenSpec.ofChange stripePlaysSpec)) stripePlaysCard

/-- THE SECOND FORM's CARD OF 'stavelaw13.StripePlays'. -/
def stripePlaysUptoCard : Claim7 := { stood := { row := stripePlaysUptoRow, standIns := [], harness := (true, "187671d3b68ff84215535281f91a1a44a8a6ba1f8f430471c4cad7f3731066b6"), looks := false }, kinds := [], alts := [], laidByText := true, laidKinds := [.data, .data], laidTests := true, laidLooks := .later }
def StripePlaysUptoCardSaid : Prop := Claim7.holds Tryz.pinned (.plain (OpenSpec.upto stripePlaysSpec)) stripePlaysUptoCard
end Rows
end Go.Proofs.YtjgafpkpoppcbaaGreatDoor
