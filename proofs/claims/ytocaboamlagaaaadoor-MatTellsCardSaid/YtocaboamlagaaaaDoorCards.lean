/-
  DERIVED. GIVEN WITH THE SEED: THE CARDS: each row of YtocaboamlagaaaaDoorRows.lean that lists a variable, with what it lists TIED to the program's text (the seventh form; the later family's looks); each row that meets fmt, with fmt's text TOLD by the authors' own Lean function (tested against real Go, not proved from fmt's source: count such statements apart). THE CARD IS WHAT COUNTS. Prove the row's statement (the work); the ties are given (YtocaboamlagaaaaDoorTie.lean); close each card by the builder's one call (the guide's Derived/Test/ToyasCard.lean, 'card_holds'). Laid BY PROGRAM, IN A SANDBOX (cutbox-door.mjs). By AI agents, Wed Nov 11 2026. No macro, syntax, notation, axiom, sorry.
-/
import Derived.Test.YtocaboamlagaaaaDoorRows
import GoSem.ClaimSeven
namespace Go.Proofs.YtocaboamlagaaaaDoor
namespace Rows

/-- THE TIED CARD OF 'stavelaw02.MatTells'. -/
def matTellsCard : Claim7 := { stood := { row := matTellsRow, standIns := [], harness := (true, "c2f3786cfef085b8e21901781f40835e69c4d4609b766c388d1b0924973f4a16"), looks := false }, kinds := [], alts := [], laidByText := true, laidKinds := [.data, .data], laidTests := true, laidLooks := .later }
def MatTellsCardSaid : Prop := Claim7.holds Tryd.pinned (.plain (OpenSpec.ofChange matTellsSpec)) matTellsCard

/-- THE TIED CARD OF 'stavelaw02.MatMakes'. -/
def matMakesCard : Claim7 := { stood := { row := matMakesRow, standIns := [], harness := (true, "c2f3786cfef085b8e21901781f40835e69c4d4609b766c388d1b0924973f4a16"), looks := false }, kinds := [], alts := [], laidByText := true, laidKinds := [.data, .data], laidTests := true, laidLooks := .later }
def MatMakesCardSaid : Prop := Claim7.holds Tryd.pinned (.plain (OpenSpec.ofChange matMakesSpec)) matMakesCard

/-- THE TIED CARD OF 'stavelaw02.MatUndoes'. -/
def matUndoesCard : Claim7 := { stood := { row := matUndoesRow, standIns := [], harness := (true, "c2f3786cfef085b8e21901781f40835e69c4d4609b766c388d1b0924973f4a16"), looks := false }, kinds := [], alts := [], laidByText := true, laidKinds := [.data, .data], laidTests := true, laidLooks := .later }
def MatUndoesCardSaid : Prop := Claim7.holds Tryd.pinned (.plain (OpenSpec.ofChange matUndoesSpec)) matUndoesCard

/-- THE TIED CARD OF 'stavelaw02.MatSingular'. -/
def matSingularCard : Claim7 := { stood := { row := matSingularRow, standIns := [], harness := (true, "c2f3786cfef085b8e21901781f40835e69c4d4609b766c388d1b0924973f4a16"), looks := false }, kinds := [], alts := [], laidByText := true, laidKinds := [.data, .data], laidTests := true, laidLooks := .later }
def MatSingularCardSaid : Prop := Claim7.holds Tryd.pinned (.plain (OpenSpec.ofChange matSingularSpec)) matSingularCard

/-- THE TIED CARD OF 'stavelaw02.MatGroups'. -/
def matGroupsCard : Claim7 := { stood := { row := matGroupsRow, standIns := [], harness := (true, "c2f3786cfef085b8e21901781f40835e69c4d4609b766c388d1b0924973f4a16"), looks := false }, kinds := [], alts := [], laidByText := true, laidKinds := [.data, .data], laidTests := true, laidLooks := .later }
def MatGroupsCardSaid : Prop := Claim7.holds Tryd.pinned (.plain (OpenSpec.ofChange matGroupsSpec)) matGroupsCard

/-- THE TIED CARD OF 'stavelaw02.MatCauchy'. -/
def matCauchyCard : Claim7 := { stood := { row := matCauchyRow, standIns := [], harness := (true, "c2f3786cfef085b8e21901781f40835e69c4d4609b766c388d1b0924973f4a16"), looks := false }, kinds := [], alts := [], laidByText := true, laidKinds := [.data, .data], laidTests := true, laidLooks := .later }
def MatCauchyCardSaid : Prop := Claim7.holds Tryd.pinned (.plain (OpenSpec.ofChange matCauchySpec)) matCauchyCard

/-- THE TIED CARD OF 'stavelaw02.MatOver'. -/
def matOverCard : Claim7 := { stood := { row := matOverRow, standIns := [], harness := (true, "c2f3786cfef085b8e21901781f40835e69c4d4609b766c388d1b0924973f4a16"), looks := false }, kinds := [], alts := [], laidByText := true, laidKinds := [.data, .data], laidTests := true, laidLooks := .later }
def MatOverCardSaid : Prop := Claim7.holds Tryd.pinned (.plain (OpenSpec.ofChange matOverSpec)) matOverCard

/-- THE TIED CARD OF 'stavelaw02.MatBoth'. -/
def matBothCard : Claim7 := { stood := { row := matBothRow, standIns := [], harness := (true, "c2f3786cfef085b8e21901781f40835e69c4d4609b766c388d1b0924973f4a16"), looks := false }, kinds := [], alts := [], laidByText := true, laidKinds := [.data, .data], laidTests := true, laidLooks := .later }
def MatBothCardSaid : Prop := Claim7.holds Tryd.pinned (.plain (OpenSpec.ofChange matBothSpec)) matBothCard

/-- THE TIED CARD OF 'stavelaw02.MatPlaces'. -/
def matPlacesCard : Claim7 := { stood := { row := matPlacesRow, standIns := [], harness := (true, "c2f3786cfef085b8e21901781f40835e69c4d4609b766c388d1b0924973f4a16"), looks := false }, kinds := [], alts := [], laidByText := true, laidKinds := [.data, .data], laidTests := true, laidLooks := .later }
def MatPlacesCardSaid : Prop := Claim7.holds Tryd.pinned (.plain (OpenSpec.ofChange matPlacesSpec)) matPlacesCard

/-- THE SECOND FORM's CARD OF 'stavelaw02.MatTells'. -/
def matTellsUptoCard : Claim7 := { stood := { row := matTellsUptoRow, standIns := [], harness := (true, "c2f3786cfef085b8e21901781f40835e69c4d4609b766c388d1b0924973f4a16"), looks := false }, kinds := [], alts := [], laidByText := true, laidKinds := [.data, .data], laidTests := true, laidLooks := .later }
def MatTellsUptoCardSaid : Prop := Claim7.holds Tryd.pinned (.plain (OpenSpec.upto matTellsSpec)) matTellsUptoCard

/-- THE SECOND FORM's CARD OF 'stavelaw02.MatMakes'. -/
def matMakesUptoCard : Claim7 := { stood := { row := matMakesUptoRow, standIns := [], harness := (true, "c2f3786cfef085b8e21901781f40835e69c4d4609b766c388d1b0924973f4a16"), looks := false }, kinds := [], alts := [], laidByText := true, laidKinds := [.data, .data], laidTests := true, laidLooks := .later }
def MatMakesUptoCardSaid : Prop := Claim7.holds Tryd.pinned (.plain (OpenSpec.upto matMakesSpec)) matMakesUptoCard

/-- THE SECOND FORM's CARD OF 'stavelaw02.MatUndoes'. -/
def matUndoesUptoCard : Claim7 := { stood := { row := matUndoesUptoRow, standIns := [], harness := (true, "c2f3786cfef085b8e21901781f40835e69c4d4609b766c388d1b0924973f4a16"), looks := false }, kinds := [], alts := [], laidByText := true, laidKinds := [.data, .data], laidTests := true, laidLooks := .later }
def MatUndoesUptoCardSaid : Prop := Claim7.holds Tryd.pinned (.plain (OpenSpec.upto matUndoesSpec)) matUndoesUptoCard

/-- THE SECOND FORM's CARD OF 'stavelaw02.MatSingular'. -/
def matSingularUptoCard : Claim7 := { stood := { row := matSingularUptoRow, standIns := [], harness := (true, "c2f3786cfef085b8e21901781f40835e69c4d4609b766c388d1b0924973f4a16"), looks := false }, kinds := [], alts := [], laidByText := true, laidKinds := [.data, .data], laidTests := true, laidLooks := .later }
def MatSingularUptoCardSaid : Prop := Claim7.holds Tryd.pinned (.plain (OpenSpec.upto matSingularSpec)) matSingularUptoCard

/-- THE SECOND FORM's CARD OF 'stavelaw02.MatGroups'. -/
def matGroupsUptoCard : Claim7 := { stood := { row := matGroupsUptoRow, standIns := [], harness := (true, "c2f3786cfef085b8e21901781f40835e69c4d4609b766c388d1b0924973f4a16"), looks := false }, kinds := [], alts := [], laidByText := true, laidKinds := [.data, .data], laidTests := true, laidLooks := .later }
def MatGroupsUptoCardSaid : Prop := Claim7.holds Tryd.pinned (.plain (OpenSpec.upto matGroupsSpec)) matGroupsUptoCard

/-- THE SECOND FORM's CARD OF 'stavelaw02.MatCauchy'. -/
def matCauchyUptoCard : Claim7 := { stood := { row := matCauchyUptoRow, standIns := [], harness := (true, "c2f3786cfef085b8e21901781f40835e69c4d4609b766c388d1b0924973f4a16"), looks := false }, kinds := [], alts := [], laidByText := true, laidKinds := [.data, .data], laidTests := true, laidLooks := .later }
def MatCauchyUptoCardSaid : Prop := Claim7.holds Tryd.pinned (.plain (OpenSpec.upto matCauchySpec)) matCauchyUptoCard

/-- THE SECOND FORM's CARD OF 'stavelaw02.MatOver'. -/
def matOverUptoCard : Claim7 := { stood := { row := matOverUptoRow, standIns := [], harness := (true, "c2f3786cfef085b8e21901781f40835e69c4d4609b766c388d1b0924973f4a16"), looks := false }, kinds := [], alts := [], laidByText := true, laidKinds := [.data, .data], laidTests := true, laidLooks := .later }
def MatOverUptoCardSaid : Prop := Claim7.holds Tryd.pinned (.plain (OpenSpec.upto matOverSpec)) matOverUptoCard

/-- THE SECOND FORM's CARD OF 'stavelaw02.MatBoth'. -/
def matBothUptoCard : Claim7 := { stood := { row := matBothUptoRow, standIns := [], harness := (true, "c2f3786cfef085b8e21901781f40835e69c4d4609b766c388d1b0924973f4a16"), looks := false }, kinds := [], alts := [], laidByText := true, laidKinds := [.data, .data], laidTests := true, laidLooks := .later }
def MatBothUptoCardSaid : Prop := Claim7.holds Tryd.pinned (.plain (OpenSpec.upto matBothSpec)) matBothUptoCard

/-- THE SECOND FORM's CARD OF 'stavelaw02.MatPlaces'. -/
def matPlacesUptoCard : Claim7 := { stood := { row := matPlacesUptoRow, standIns := [], harness := (true, "c2f3786cfef085b8e21901781f40835e69c4d4609b766c388d1b0924973f4a16"), looks := false }, kinds := [], alts := [], laidByText := true, laidKinds := [.data, .data], laidTests := true, laidLooks := .later }
def MatPlacesUptoCardSaid : Prop := Claim7.holds Tryd.pinned (.plain (OpenSpec.upto matPlacesSpec)) matPlacesUptoCard
end Rows
end Go.Proofs.YtocaboamlagaaaaDoor
