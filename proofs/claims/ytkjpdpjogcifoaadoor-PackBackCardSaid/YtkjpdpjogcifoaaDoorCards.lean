/-
  DERIVED. GIVEN WITH THE SEED: THE CARDS: each row of YtkjpdpjogcifoaaDoorRows.lean that lists a variable, with what it lists TIED to the program's text (the seventh form; the later family's looks); each row that meets fmt, with fmt's text TOLD by the authors' own Lean function (tested against real Go, not proved from fmt's source: count such statements apart). THE CARD IS WHAT COUNTS. Prove the row's statement (the work); the ties are given (YtkjpdpjogcifoaaDoorTie.lean); close each card by the builder's one call (the guide's Derived/Test/ToyasCard.lean, 'card_holds'). Laid BY PROGRAM, IN A SANDBOX (cutbox-door.mjs). By AI agents, Wed Nov 11 2026. No macro, syntax, notation, axiom, sorry.
-/
import Derived.Test.YtkjpdpjogcifoaaDoorRows
import GoSem.ClaimSeven
namespace Go.Proofs.YtkjpdpjogcifoaaDoor
namespace Rows

/-- THE TIED CARD OF 'stavelaw05.PackTells'. -/
def packTellsCard : Claim7 := { stood := { row := packTellsRow, standIns := [], harness := (true, "1fcb78a44cbea374e0afd916607e7ffda4a5be51f4cbe3e2e63500bf67cd536c"), looks := false }, kinds := [], alts := [], laidByText := true, laidKinds := [.data, .pinned], laidTests := true, laidLooks := .later }
def PackTellsCardSaid : Prop := Claim7.holds Tryd.pinned (.plain (OpenSpec.ofChange packTellsSpec)) packTellsCard

/-- THE TIED CARD OF 'stavelaw05.PackReads'. -/
def packReadsCard : Claim7 := { stood := { row := packReadsRow, standIns := [], harness := (true, "1fcb78a44cbea374e0afd916607e7ffda4a5be51f4cbe3e2e63500bf67cd536c"), looks := false }, kinds := [], alts := [], laidByText := true, laidKinds := [.data, .pinned], laidTests := true, laidLooks := .later }
def PackReadsCardSaid : Prop := Claim7.holds Tryd.pinned (.plain (OpenSpec.ofChange packReadsSpec)) packReadsCard

/-- THE TIED CARD OF 'stavelaw05.PackBack'. -/
def packBackCard : Claim7 := { stood := { row := packBackRow, standIns := [], harness := (true, "1fcb78a44cbea374e0afd916607e7ffda4a5be51f4cbe3e2e63500bf67cd536c"), looks := false }, kinds := [], alts := [], laidByText := true, laidKinds := [.data, .pinned], laidTests := true, laidLooks := .later }
def PackBackCardSaid : Prop := Claim7.holds Tryd.pinned (.plain (OpenSpec.ofChange packBackSpec)) packBackCard

/-- THE TIED CARD OF 'stavelaw05.PackBad'. -/
def packBadCard : Claim7 := { stood := { row := packBadRow, standIns := [], harness := (true, "1fcb78a44cbea374e0afd916607e7ffda4a5be51f4cbe3e2e63500bf67cd536c"), looks := false }, kinds := [], alts := [], laidByText := true, laidKinds := [.data, .pinned], laidTests := true, laidLooks := .later }
def PackBadCardSaid : Prop := Claim7.holds Tryd.pinned (.plain (OpenSpec.ofChange packBadSpec)) packBadCard

/-- THE TIED CARD OF 'stavelaw05.PackRises'. -/
def packRisesCard : Claim7 := { stood := { row := packRisesRow, standIns := [], harness := (true, "1fcb78a44cbea374e0afd916607e7ffda4a5be51f4cbe3e2e63500bf67cd536c"), looks := false }, kinds := [], alts := [], laidByText := true, laidKinds := [.data, .pinned], laidTests := true, laidLooks := .later }
def PackRisesCardSaid : Prop := Claim7.holds Tryd.pinned (.plain (OpenSpec.ofChange packRisesSpec)) packRisesCard

/-- THE TIED CARD OF 'stavelaw05.PackParts'. -/
def packPartsCard : Claim7 := { stood := { row := packPartsRow, standIns := [], harness := (true, "1fcb78a44cbea374e0afd916607e7ffda4a5be51f4cbe3e2e63500bf67cd536c"), looks := false }, kinds := [], alts := [], laidByText := true, laidKinds := [.data, .pinned], laidTests := true, laidLooks := .later }
def PackPartsCardSaid : Prop := Claim7.holds Tryd.pinned (.plain (OpenSpec.ofChange packPartsSpec)) packPartsCard

/-- THE SECOND FORM's CARD OF 'stavelaw05.PackTells'. -/
def packTellsUptoCard : Claim7 := { stood := { row := packTellsUptoRow, standIns := [], harness := (true, "1fcb78a44cbea374e0afd916607e7ffda4a5be51f4cbe3e2e63500bf67cd536c"), looks := false }, kinds := [], alts := [], laidByText := true, laidKinds := [.data, .pinned], laidTests := true, laidLooks := .later }
def PackTellsUptoCardSaid : Prop := Claim7.holds Tryd.pinned (.plain (OpenSpec.upto packTellsSpec)) packTellsUptoCard

/-- THE SECOND FORM's CARD OF 'stavelaw05.PackReads'. -/
def packReadsUptoCard : Claim7 := { stood := { row := packReadsUptoRow, standIns := [], harness := (true, "1fcb78a44cbea374e0afd916607e7ffda4a5be51f4cbe3e2e63500bf67cd536c"), looks := false }, kinds := [], alts := [], laidByText := true, laidKinds := [.data, .pinned], laidTests := true, laidLooks := .later }
def PackReadsUptoCardSaid : Prop := Claim7.holds Tryd.pinned (.plain (OpenSpec.upto packReadsSpec)) packReadsUptoCard

/-- THE SECOND FORM's CARD OF 'stavelaw05.PackBack'. -/
def packBackUptoCard : Claim7 := { stood := { row := packBackUptoRow, standIns := [], harness := (true, "1fcb78a44cbea374e0afd916607e7ffda4a5be51f4cbe3e2e63500bf67cd536c"), looks := false }, kinds := [], alts := [], laidByText := true, laidKinds := [.data, .pinned], laidTests := true, laidLooks := .later }
def PackBackUptoCardSaid : Prop := Claim7.holds Tryd.pinned (.plain (OpenSpec.upto packBackSpec)) packBackUptoCard

/-- THE SECOND FORM's CARD OF 'stavelaw05.PackBad'. -/
def packBadUptoCard : Claim7 := { stood := { row := packBadUptoRow, standIns := [], harness := (true, "1fcb78a44cbea374e0afd916607e7ffda4a5be51f4cbe3e2e63500bf67cd536c"), looks := false }, kinds := [], alts := [], laidByText := true, laidKinds := [.data, .pinned], laidTests := true, laidLooks := .later }
def PackBadUptoCardSaid : Prop := Claim7.holds Tryd.pinned (.plain (OpenSpec.upto packBadSpec)) packBadUptoCard

/-- THE SECOND FORM's CARD OF 'stavelaw05.PackRises'. -/
def packRisesUptoCard : Claim7 := { stood := { row := packRisesUptoRow, standIns := [], harness := (true, "1fcb78a44cbea374e0afd916607e7ffda4a5be51f4cbe3e2e63500bf67cd536c"), looks := false }, kinds := [], alts := [], laidByText := true, laidKinds := [.data, .pinned], laidTests := true, laidLooks := .later }
def PackRisesUptoCardSaid : Prop := Claim7.holds Tryd.pinned (.plain (OpenSpec.upto packRisesSpec)) packRisesUptoCard

/-- THE SECOND FORM's CARD OF 'stavelaw05.PackParts'. -/
def packPartsUptoCard : Claim7 := { stood := { row := packPartsUptoRow, standIns := [], harness := (true, "1fcb78a44cbea374e0afd916607e7ffda4a5be51f4cbe3e2e63500bf67cd536c"), looks := false }, kinds := [], alts := [], laidByText := true, laidKinds := [.data, .pinned], laidTests := true, laidLooks := .later }
def PackPartsUptoCardSaid : Prop := Claim7.holds Tryd.pinned (.plain (OpenSpec.upto packPartsSpec)) packPartsUptoCard
end Rows
end Go.Proofs.YtkjpdpjogcifoaaDoor
