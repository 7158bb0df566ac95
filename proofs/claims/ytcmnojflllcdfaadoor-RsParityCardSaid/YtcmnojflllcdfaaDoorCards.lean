/-
  DERIVED. GIVEN WITH THE SEED: THE CARDS: each row of YtcmnojflllcdfaaDoorRows.lean that lists a variable, with what it lists TIED to the program's text (the seventh form; the later family's looks); each row that meets fmt, with fmt's text TOLD by the authors' own Lean function (tested against real Go, not proved from fmt's source: count such statements apart). THE CARD IS WHAT COUNTS. Prove the row's statement (the work); the ties are given (YtcmnojflllcdfaaDoorTie.lean); close each card by the builder's one call (the guide's Derived/Test/ToyasCard.lean, 'card_holds'). Laid BY PROGRAM, IN A SANDBOX (cutbox-door.mjs). By AI agents, Wed Nov 11 2026. No macro, syntax, notation, axiom, sorry.
-/
import Derived.Test.YtcmnojflllcdfaaDoorRows
import GoSem.ClaimSeven
namespace Go.Proofs.YtcmnojflllcdfaaDoor
namespace Rows

/-- THE TIED CARD OF 'stavelaw03.RsEncodes'. -/
def rsEncodesCard : Claim7 := { stood := { row := rsEncodesRow, standIns := [], harness := (true, "352046df676040094e0d81b160fea7b9ca881913d378bfb324f80946966470e8"), looks := false }, kinds := [], alts := [], laidByText := true, laidKinds := [.data, .data], laidTests := true, laidLooks := .later }
def RsEncodesCardSaid : Prop := Claim7.holds Tryd.pinned (.plain (OpenSpec.ofChange rsEncodesSpec)) rsEncodesCard

/-- THE TIED CARD OF 'stavelaw03.RsDecodes'. -/
def rsDecodesCard : Claim7 := { stood := { row := rsDecodesRow, standIns := [], harness := (true, "352046df676040094e0d81b160fea7b9ca881913d378bfb324f80946966470e8"), looks := false }, kinds := [], alts := [], laidByText := true, laidKinds := [.data, .data], laidTests := true, laidLooks := .later }
def RsDecodesCardSaid : Prop := Claim7.holds Tryd.pinned (.plain (OpenSpec.ofChange rsDecodesSpec)) rsDecodesCard

/-- THE TIED CARD OF 'stavelaw03.RsBack'. -/
def rsBackCard : Claim7 := { stood := { row := rsBackRow, standIns := [], harness := (true, "352046df676040094e0d81b160fea7b9ca881913d378bfb324f80946966470e8"), looks := false }, kinds := [], alts := [], laidByText := true, laidKinds := [.data, .data], laidTests := true, laidLooks := .later }
def RsBackCardSaid : Prop := Claim7.holds Tryd.pinned (.plain (OpenSpec.ofChange rsBackSpec)) rsBackCard

/-- THE TIED CARD OF 'stavelaw03.RsFewer'. -/
def rsFewerCard : Claim7 := { stood := { row := rsFewerRow, standIns := [], harness := (true, "352046df676040094e0d81b160fea7b9ca881913d378bfb324f80946966470e8"), looks := false }, kinds := [], alts := [], laidByText := true, laidKinds := [.data, .data], laidTests := true, laidLooks := .later }
def RsFewerCardSaid : Prop := Claim7.holds Tryd.pinned (.plain (OpenSpec.ofChange rsFewerSpec)) rsFewerCard

/-- THE TIED CARD OF 'stavelaw03.RsUpdates'. -/
def rsUpdatesCard : Claim7 := { stood := { row := rsUpdatesRow, standIns := [], harness := (true, "352046df676040094e0d81b160fea7b9ca881913d378bfb324f80946966470e8"), looks := false }, kinds := [], alts := [], laidByText := true, laidKinds := [.data, .data], laidTests := true, laidLooks := .later }
def RsUpdatesCardSaid : Prop := Claim7.holds Tryd.pinned (.plain (OpenSpec.ofChange rsUpdatesSpec)) rsUpdatesCard

/-- THE TIED CARD OF 'stavelaw03.RsSums'. -/
def rsSumsCard : Claim7 := { stood := { row := rsSumsRow, standIns := [], harness := (true, "352046df676040094e0d81b160fea7b9ca881913d378bfb324f80946966470e8"), looks := false }, kinds := [], alts := [], laidByText := true, laidKinds := [.data, .data], laidTests := true, laidLooks := .later }
def RsSumsCardSaid : Prop := Claim7.holds Tryd.pinned (.plain (OpenSpec.ofChange rsSumsSpec)) rsSumsCard

/-- THE TIED CARD OF 'stavelaw03.RsScales'. -/
def rsScalesCard : Claim7 := { stood := { row := rsScalesRow, standIns := [], harness := (true, "352046df676040094e0d81b160fea7b9ca881913d378bfb324f80946966470e8"), looks := false }, kinds := [], alts := [], laidByText := true, laidKinds := [.data, .data], laidTests := true, laidLooks := .later }
def RsScalesCardSaid : Prop := Claim7.holds Tryd.pinned (.plain (OpenSpec.ofChange rsScalesSpec)) rsScalesCard

/-- THE TIED CARD OF 'stavelaw03.RsPlaces'. -/
def rsPlacesCard : Claim7 := { stood := { row := rsPlacesRow, standIns := [], harness := (true, "352046df676040094e0d81b160fea7b9ca881913d378bfb324f80946966470e8"), looks := false }, kinds := [], alts := [], laidByText := true, laidKinds := [.data, .data], laidTests := true, laidLooks := .later }
def RsPlacesCardSaid : Prop := Claim7.holds Tryd.pinned (.plain (OpenSpec.ofChange rsPlacesSpec)) rsPlacesCard

/-- THE TIED CARD OF 'stavelaw03.RsParity'. -/
def rsParityCard : Claim7 := { stood := { row := rsParityRow, standIns := [], harness := (true, "352046df676040094e0d81b160fea7b9ca881913d378bfb324f80946966470e8"), looks := false }, kinds := [], alts := [], laidByText := true, laidKinds := [.data, .data], laidTests := true, laidLooks := .later }
def RsParityCardSaid : Prop := Claim7.holds Tryd.pinned (.plain (OpenSpec.ofChange rsParitySpec)) rsParityCard

/-- THE TIED CARD OF 'stavelaw03.RsFirst'. -/
def rsFirstCard : Claim7 := { stood := { row := rsFirstRow, standIns := [], harness := (true, "352046df676040094e0d81b160fea7b9ca881913d378bfb324f80946966470e8"), looks := false }, kinds := [], alts := [], laidByText := true, laidKinds := [.data, .data], laidTests := true, laidLooks := .later }
def RsFirstCardSaid : Prop := Claim7.holds Tryd.pinned (.plain (OpenSpec.ofChange rsFirstSpec)) rsFirstCard

/-- THE SECOND FORM's CARD OF 'stavelaw03.RsEncodes'. -/
def rsEncodesUptoCard : Claim7 := { stood := { row := rsEncodesUptoRow, standIns := [], harness := (true, "352046df676040094e0d81b160fea7b9ca881913d378bfb324f80946966470e8"), looks := false }, kinds := [], alts := [], laidByText := true, laidKinds := [.data, .data], laidTests := true, laidLooks := .later }
def RsEncodesUptoCardSaid : Prop := Claim7.holds Tryd.pinned (.plain (OpenSpec.upto rsEncodesSpec)) rsEncodesUptoCard

/-- THE SECOND FORM's CARD OF 'stavelaw03.RsDecodes'. -/
def rsDecodesUptoCard : Claim7 := { stood := { row := rsDecodesUptoRow, standIns := [], harness := (true, "352046df676040094e0d81b160fea7b9ca881913d378bfb324f80946966470e8"), looks := false }, kinds := [], alts := [], laidByText := true, laidKinds := [.data, .data], laidTests := true, laidLooks := .later }
def RsDecodesUptoCardSaid : Prop := Claim7.holds Tryd.pinned (.plain (OpenSpec.upto rsDecodesSpec)) rsDecodesUptoCard

/-- THE SECOND FORM's CARD OF 'stavelaw03.RsBack'. -/
def rsBackUptoCard : Claim7 := { stood := { row := rsBackUptoRow, standIns := [], harness := (true, "352046df676040094e0d81b160fea7b9ca881913d378bfb324f80946966470e8"), looks := false }, kinds := [], alts := [], laidByText := true, laidKinds := [.data, .data], laidTests := true, laidLooks := .later }
def RsBackUptoCardSaid : Prop := Claim7.holds Tryd.pinned (.plain (OpenSpec.upto rsBackSpec)) rsBackUptoCard

/-- THE SECOND FORM's CARD OF 'stavelaw03.RsFewer'. -/
def rsFewerUptoCard : Claim7 := { stood := { row := rsFewerUptoRow, standIns := [], harness := (true, "352046df676040094e0d81b160fea7b9ca881913d378bfb324f80946966470e8"), looks := false }, kinds := [], alts := [], laidByText := true, laidKinds := [.data, .data], laidTests := true, laidLooks := .later }
def RsFewerUptoCardSaid : Prop := Claim7.holds Tryd.pinned (.plain (OpenSpec.upto rsFewerSpec)) rsFewerUptoCard

/-- THE SECOND FORM's CARD OF 'stavelaw03.RsUpdates'. -/
def rsUpdatesUptoCard : Claim7 := { stood := { row := rsUpdatesUptoRow, standIns := [], harness := (true, "352046df676040094e0d81b160fea7b9ca881913d378bfb324f80946966470e8"), looks := false }, kinds := [], alts := [], laidByText := true, laidKinds := [.data, .data], laidTests := true, laidLooks := .later }
def RsUpdatesUptoCardSaid : Prop := Claim7.holds Tryd.pinned (.plain (OpenSpec.upto rsUpdatesSpec)) rsUpdatesUptoCard

/-- THE SECOND FORM's CARD OF 'stavelaw03.RsSums'. -/
def rsSumsUptoCard : Claim7 := { stood := { row := rsSumsUptoRow, standIns := [], harness := (true, "352046df676040094e0d81b160fea7b9ca881913d378bfb324f80946966470e8"), looks := false }, kinds := [], alts := [], laidByText := true, laidKinds := [.data, .data], laidTests := true, laidLooks := .later }
def RsSumsUptoCardSaid : Prop := Claim7.holds Tryd.pinned (.plain (OpenSpec.upto rsSumsSpec)) rsSumsUptoCard

/-- THE SECOND FORM's CARD OF 'stavelaw03.RsScales'. -/
def rsScalesUptoCard : Claim7 := { stood := { row := rsScalesUptoRow, standIns := [], harness := (true, "352046df676040094e0d81b160fea7b9ca881913d378bfb324f80946966470e8"), looks := false }, kinds := [], alts := [], laidByText := true, laidKinds := [.data, .data], laidTests := true, laidLooks := .later }
def RsScalesUptoCardSaid : Prop := Claim7.holds Tryd.pinned (.plain (OpenSpec.upto rsScalesSpec)) rsScalesUptoCard

/-- THE SECOND FORM's CARD OF 'stavelaw03.RsPlaces'. -/
def rsPlacesUptoCard : Claim7 := { stood := { row := rsPlacesUptoRow, standIns := [], harness := (true, "352046df676040094e0d81b160fea7b9ca881913d378bfb324f80946966470e8"), looks := false }, kinds := [], alts := [], laidByText := true, laidKinds := [.data, .data], laidTests := true, laidLooks := .later }
def RsPlacesUptoCardSaid : Prop := Claim7.holds Tryd.pinned (.plain (OpenSpec.upto rsPlacesSpec)) rsPlacesUptoCard

/-- THE SECOND FORM's CARD OF 'stavelaw03.RsParity'. -/
def rsParityUptoCard : Claim7 := { stood := { row := rsParityUptoRow, standIns := [], harness := (true, "352046df676040094e0d81b160fea7b9ca881913d378bfb324f80946966470e8"), looks := false }, kinds := [], alts := [], laidByText := true, laidKinds := [.data, .data], laidTests := true, laidLooks := .later }
def RsParityUptoCardSaid : Prop := Claim7.holds Tryd.pinned (.plain (OpenSpec.upto rsParitySpec)) rsParityUptoCard

/-- THE SECOND FORM's CARD OF 'stavelaw03.RsFirst'. -/
def rsFirstUptoCard : Claim7 := { stood := { row := rsFirstUptoRow, standIns := [], harness := (true, "352046df676040094e0d81b160fea7b9ca881913d378bfb324f80946966470e8"), looks := false }, kinds := [], alts := [], laidByText := true, laidKinds := [.data, .data], laidTests := true, laidLooks := .later }
def RsFirstUptoCardSaid : Prop := Claim7.holds Tryd.pinned (.plain (OpenSpec.upto rsFirstSpec)) rsFirstUptoCard
end Rows
end Go.Proofs.YtcmnojflllcdfaaDoor
