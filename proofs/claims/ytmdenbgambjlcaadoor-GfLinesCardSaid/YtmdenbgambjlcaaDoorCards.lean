/-
  DERIVED. GIVEN WITH THE SEED: THE CARDS: each row of YtmdenbgambjlcaaDoorRows.lean that lists a variable, with what it lists TIED to the program's text (the seventh form; the later family's looks); each row that meets fmt, with fmt's text TOLD by the authors' own Lean function (tested against real Go, not proved from fmt's source: count such statements apart). THE CARD IS WHAT COUNTS. Prove the row's statement (the work); the ties are given (YtmdenbgambjlcaaDoorTie.lean); close each card by the builder's one call (the guide's Derived/Test/ToyasCard.lean, 'card_holds'). Laid BY PROGRAM, IN A SANDBOX (cutbox-door.mjs). By AI agents, Wed Nov 11 2026. No macro, syntax, notation, axiom, sorry.
-/
import Derived.Test.YtmdenbgambjlcaaDoorRows
import GoSem.ClaimSeven
namespace Go.Proofs.YtmdenbgambjlcaaDoor
namespace Rows

/-- THE TIED CARD OF 'stavelaw01.GfTells'. -/
def gfTellsCard : Claim7 := { stood := { row := gfTellsRow, standIns := [], harness := (true, "ce66ed1df4491f6a7589e9d4caf985bdd9f53653817bebed9069ed727b0b7b40"), looks := false }, kinds := [], alts := [], laidByText := true, laidKinds := [.data, .data], laidTests := true, laidLooks := .later }
def GfTellsCardSaid : Prop := Claim7.holds Tryd.pinned (.plain (OpenSpec.ofChange gfTellsSpec)) gfTellsCard

/-- THE TIED CARD OF 'stavelaw01.GfPowers'. -/
def gfPowersCard : Claim7 := { stood := { row := gfPowersRow, standIns := [], harness := (true, "ce66ed1df4491f6a7589e9d4caf985bdd9f53653817bebed9069ed727b0b7b40"), looks := false }, kinds := [], alts := [], laidByText := true, laidKinds := [.data, .data], laidTests := true, laidLooks := .later }
def GfPowersCardSaid : Prop := Claim7.holds Tryd.pinned (.plain (OpenSpec.ofChange gfPowersSpec)) gfPowersCard

/-- THE TIED CARD OF 'stavelaw01.GfField'. -/
def gfFieldCard : Claim7 := { stood := { row := gfFieldRow, standIns := [], harness := (true, "ce66ed1df4491f6a7589e9d4caf985bdd9f53653817bebed9069ed727b0b7b40"), looks := false }, kinds := [], alts := [], laidByText := true, laidKinds := [.data, .data], laidTests := true, laidLooks := .later }
def GfFieldCardSaid : Prop := Claim7.holds Tryd.pinned (.plain (OpenSpec.ofChange gfFieldSpec)) gfFieldCard

/-- THE TIED CARD OF 'stavelaw01.GfOnce'. -/
def gfOnceCard : Claim7 := { stood := { row := gfOnceRow, standIns := [], harness := (true, "ce66ed1df4491f6a7589e9d4caf985bdd9f53653817bebed9069ed727b0b7b40"), looks := false }, kinds := [], alts := [], laidByText := true, laidKinds := [.data, .data], laidTests := true, laidLooks := .later }
def GfOnceCardSaid : Prop := Claim7.holds Tryd.pinned (.plain (OpenSpec.ofChange gfOnceSpec)) gfOnceCard

/-- THE TIED CARD OF 'stavelaw01.GfAdds'. -/
def gfAddsCard : Claim7 := { stood := { row := gfAddsRow, standIns := [], harness := (true, "ce66ed1df4491f6a7589e9d4caf985bdd9f53653817bebed9069ed727b0b7b40"), looks := false }, kinds := [], alts := [], laidByText := true, laidKinds := [.data, .data], laidTests := true, laidLooks := .later }
def GfAddsCardSaid : Prop := Claim7.holds Tryd.pinned (.plain (OpenSpec.ofChange gfAddsSpec)) gfAddsCard

/-- THE TIED CARD OF 'stavelaw01.GfLines'. -/
def gfLinesCard : Claim7 := { stood := { row := gfLinesRow, standIns := [], harness := (true, "ce66ed1df4491f6a7589e9d4caf985bdd9f53653817bebed9069ed727b0b7b40"), looks := false }, kinds := [], alts := [], laidByText := true, laidKinds := [.data, .data], laidTests := true, laidLooks := .later }
def GfLinesCardSaid : Prop := Claim7.holds Tryd.pinned (.plain (OpenSpec.ofChange gfLinesSpec)) gfLinesCard

/-- THE TIED CARD OF 'stavelaw01.GfNought'. -/
def gfNoughtCard : Claim7 := { stood := { row := gfNoughtRow, standIns := [], harness := (true, "ce66ed1df4491f6a7589e9d4caf985bdd9f53653817bebed9069ed727b0b7b40"), looks := false }, kinds := [], alts := [], laidByText := true, laidKinds := [.data, .data], laidTests := true, laidLooks := .later }
def GfNoughtCardSaid : Prop := Claim7.holds Tryd.pinned (.plain (OpenSpec.ofChange gfNoughtSpec)) gfNoughtCard

/-- THE TIED CARD OF 'stavelaw01.GfSquares'. -/
def gfSquaresCard : Claim7 := { stood := { row := gfSquaresRow, standIns := [], harness := (true, "ce66ed1df4491f6a7589e9d4caf985bdd9f53653817bebed9069ed727b0b7b40"), looks := false }, kinds := [], alts := [], laidByText := true, laidKinds := [.data, .data], laidTests := true, laidLooks := .later }
def GfSquaresCardSaid : Prop := Claim7.holds Tryd.pinned (.plain (OpenSpec.ofChange gfSquaresSpec)) gfSquaresCard

/-- THE TIED CARD OF 'stavelaw01.GfOrder'. -/
def gfOrderCard : Claim7 := { stood := { row := gfOrderRow, standIns := [], harness := (true, "ce66ed1df4491f6a7589e9d4caf985bdd9f53653817bebed9069ed727b0b7b40"), looks := false }, kinds := [], alts := [], laidByText := true, laidKinds := [.data, .data], laidTests := true, laidLooks := .later }
def GfOrderCardSaid : Prop := Claim7.holds Tryd.pinned (.plain (OpenSpec.ofChange gfOrderSpec)) gfOrderCard

/-- THE TIED CARD OF 'stavelaw01.GfShares'. -/
def gfSharesCard : Claim7 := { stood := { row := gfSharesRow, standIns := [], harness := (true, "ce66ed1df4491f6a7589e9d4caf985bdd9f53653817bebed9069ed727b0b7b40"), looks := false }, kinds := [], alts := [], laidByText := true, laidKinds := [.data, .data], laidTests := true, laidLooks := .later }
def GfSharesCardSaid : Prop := Claim7.holds Tryd.pinned (.plain (OpenSpec.ofChange gfSharesSpec)) gfSharesCard

/-- THE SECOND FORM's CARD OF 'stavelaw01.GfTells'. -/
def gfTellsUptoCard : Claim7 := { stood := { row := gfTellsUptoRow, standIns := [], harness := (true, "ce66ed1df4491f6a7589e9d4caf985bdd9f53653817bebed9069ed727b0b7b40"), looks := false }, kinds := [], alts := [], laidByText := true, laidKinds := [.data, .data], laidTests := true, laidLooks := .later }
def GfTellsUptoCardSaid : Prop := Claim7.holds Tryd.pinned (.plain (OpenSpec.upto gfTellsSpec)) gfTellsUptoCard

/-- THE SECOND FORM's CARD OF 'stavelaw01.GfPowers'. -/
def gfPowersUptoCard : Claim7 := { stood := { row := gfPowersUptoRow, standIns := [], harness := (true, "ce66ed1df4491f6a7589e9d4caf985bdd9f53653817bebed9069ed727b0b7b40"), looks := false }, kinds := [], alts := [], laidByText := true, laidKinds := [.data, .data], laidTests := true, laidLooks := .later }
def GfPowersUptoCardSaid : Prop := Claim7.holds Tryd.pinned (.plain (OpenSpec.upto gfPowersSpec)) gfPowersUptoCard

/-- THE SECOND FORM's CARD OF 'stavelaw01.GfField'. -/
def gfFieldUptoCard : Claim7 := { stood := { row := gfFieldUptoRow, standIns := [], harness := (true, "ce66ed1df4491f6a7589e9d4caf985bdd9f53653817bebed9069ed727b0b7b40"), looks := false }, kinds := [], alts := [], laidByText := true, laidKinds := [.data, .data], laidTests := true, laidLooks := .later }
def GfFieldUptoCardSaid : Prop := Claim7.holds Tryd.pinned (.plain (OpenSpec.upto gfFieldSpec)) gfFieldUptoCard

/-- THE SECOND FORM's CARD OF 'stavelaw01.GfOnce'. -/
def gfOnceUptoCard : Claim7 := { stood := { row := gfOnceUptoRow, standIns := [], harness := (true, "ce66ed1df4491f6a7589e9d4caf985bdd9f53653817bebed9069ed727b0b7b40"), looks := false }, kinds := [], alts := [], laidByText := true, laidKinds := [.data, .data], laidTests := true, laidLooks := .later }
def GfOnceUptoCardSaid : Prop := Claim7.holds Tryd.pinned (.plain (OpenSpec.upto gfOnceSpec)) gfOnceUptoCard

/-- THE SECOND FORM's CARD OF 'stavelaw01.GfAdds'. -/
def gfAddsUptoCard : Claim7 := { stood := { row := gfAddsUptoRow, standIns := [], harness := (true, "ce66ed1df4491f6a7589e9d4caf985bdd9f53653817bebed9069ed727b0b7b40"), looks := false }, kinds := [], alts := [], laidByText := true, laidKinds := [.data, .data], laidTests := true, laidLooks := .later }
def GfAddsUptoCardSaid : Prop := Claim7.holds Tryd.pinned (.plain (OpenSpec.upto gfAddsSpec)) gfAddsUptoCard

/-- THE SECOND FORM's CARD OF 'stavelaw01.GfLines'. -/
def gfLinesUptoCard : Claim7 := { stood := { row := gfLinesUptoRow, standIns := [], harness := (true, "ce66ed1df4491f6a7589e9d4caf985bdd9f53653817bebed9069ed727b0b7b40"), looks := false }, kinds := [], alts := [], laidByText := true, laidKinds := [.data, .data], laidTests := true, laidLooks := .later }
def GfLinesUptoCardSaid : Prop := Claim7.holds Tryd.pinned (.plain (OpenSpec.upto gfLinesSpec)) gfLinesUptoCard

/-- THE SECOND FORM's CARD OF 'stavelaw01.GfNought'. -/
def gfNoughtUptoCard : Claim7 := { stood := { row := gfNoughtUptoRow, standIns := [], harness := (true, "ce66ed1df4491f6a7589e9d4caf985bdd9f53653817bebed9069ed727b0b7b40"), looks := false }, kinds := [], alts := [], laidByText := true, laidKinds := [.data, .data], laidTests := true, laidLooks := .later }
def GfNoughtUptoCardSaid : Prop := Claim7.holds Tryd.pinned (.plain (OpenSpec.upto gfNoughtSpec)) gfNoughtUptoCard

/-- THE SECOND FORM's CARD OF 'stavelaw01.GfSquares'. -/
def gfSquaresUptoCard : Claim7 := { stood := { row := gfSquaresUptoRow, standIns := [], harness := (true, "ce66ed1df4491f6a7589e9d4caf985bdd9f53653817bebed9069ed727b0b7b40"), looks := false }, kinds := [], alts := [], laidByText := true, laidKinds := [.data, .data], laidTests := true, laidLooks := .later }
def GfSquaresUptoCardSaid : Prop := Claim7.holds Tryd.pinned (.plain (OpenSpec.upto gfSquaresSpec)) gfSquaresUptoCard

/-- THE SECOND FORM's CARD OF 'stavelaw01.GfOrder'. -/
def gfOrderUptoCard : Claim7 := { stood := { row := gfOrderUptoRow, standIns := [], harness := (true, "ce66ed1df4491f6a7589e9d4caf985bdd9f53653817bebed9069ed727b0b7b40"), looks := false }, kinds := [], alts := [], laidByText := true, laidKinds := [.data, .data], laidTests := true, laidLooks := .later }
def GfOrderUptoCardSaid : Prop := Claim7.holds Tryd.pinned (.plain (OpenSpec.upto gfOrderSpec)) gfOrderUptoCard

/-- THE SECOND FORM's CARD OF 'stavelaw01.GfShares'. -/
def gfSharesUptoCard : Claim7 := { stood := { row := gfSharesUptoRow, standIns := [], harness := (true, "ce66ed1df4491f6a7589e9d4caf985bdd9f53653817bebed9069ed727b0b7b40"), looks := false }, kinds := [], alts := [], laidByText := true, laidKinds := [.data, .data], laidTests := true, laidLooks := .later }
def GfSharesUptoCardSaid : Prop := Claim7.holds Tryd.pinned (.plain (OpenSpec.upto gfSharesSpec)) gfSharesUptoCard
end Rows
end Go.Proofs.YtmdenbgambjlcaaDoor
