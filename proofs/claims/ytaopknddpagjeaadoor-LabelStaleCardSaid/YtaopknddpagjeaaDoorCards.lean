/-
  DERIVED. GIVEN WITH THE SEED: THE CARDS: each row of YtaopknddpagjeaaDoorRows.lean that lists a variable, with what it lists TIED to the program's text (the seventh form; the later family's looks); each row that meets fmt, with fmt's text TOLD by the authors' own Lean function (tested against real Go, not proved from fmt's source: count such statements apart). THE CARD IS WHAT COUNTS. Prove the row's statement (the work); the ties are given (YtaopknddpagjeaaDoorTie.lean); close each card by the builder's one call (the guide's Derived/Test/ToyasCard.lean, 'card_holds'). Laid BY PROGRAM, IN A SANDBOX (cutbox-door.mjs). By AI agents, Wed Nov 11 2026. No macro, syntax, notation, axiom, sorry.
-/
import Derived.Test.YtaopknddpagjeaaDoorRows
import GoSem.ClaimSeven
namespace Go.Proofs.YtaopknddpagjeaaDoor
namespace Rows

/-- THE TIED CARD OF 'stavelaw10.LabelTells'. -/
def labelTellsCard : Claim7 := { stood := { row := labelTellsRow, standIns := [], harness := (true, "99782820a8b8969c55fc00c0f4d57c4b4d0faec9ffaf1d049924c10bc5937507"), looks := false }, kinds := [], alts := [], laidByText := true, laidKinds := [.data, .pinned], laidTests := true, laidLooks := .later }
def LabelTellsCardSaid : Prop := Claim7.holds Tryd.pinned (.plain (OpenSpec.ofChange labelTellsSpec)) labelTellsCard

/-- THE TIED CARD OF 'stavelaw10.LabelBack'. -/
def labelBackCard : Claim7 := { stood := { row := labelBackRow, standIns := [], harness := (true, "99782820a8b8969c55fc00c0f4d57c4b4d0faec9ffaf1d049924c10bc5937507"), looks := false }, kinds := [], alts := [], laidByText := true, laidKinds := [.data, .pinned], laidTests := true, laidLooks := .later }
def LabelBackCardSaid : Prop := Claim7.holds Tryd.pinned (.plain (OpenSpec.ofChange labelBackSpec)) labelBackCard

/-- THE TIED CARD OF 'stavelaw10.LabelChooses'. -/
def labelChoosesCard : Claim7 := { stood := { row := labelChoosesRow, standIns := [], harness := (true, "99782820a8b8969c55fc00c0f4d57c4b4d0faec9ffaf1d049924c10bc5937507"), looks := false }, kinds := [], alts := [], laidByText := true, laidKinds := [.data, .pinned], laidTests := true, laidLooks := .later }
def LabelChoosesCardSaid : Prop := Claim7.holds Tryd.pinned (.plain (OpenSpec.ofChange labelChoosesSpec)) labelChoosesCard

/-- THE TIED CARD OF 'stavelaw10.LabelCounts'. -/
def labelCountsCard : Claim7 := { stood := { row := labelCountsRow, standIns := [], harness := (true, "99782820a8b8969c55fc00c0f4d57c4b4d0faec9ffaf1d049924c10bc5937507"), looks := false }, kinds := [], alts := [], laidByText := true, laidKinds := [.data, .pinned], laidTests := true, laidLooks := .later }
def LabelCountsCardSaid : Prop := Claim7.holds Tryd.pinned (.plain (OpenSpec.ofChange labelCountsSpec)) labelCountsCard

/-- THE TIED CARD OF 'stavelaw10.LabelStale'. -/
def labelStaleCard : Claim7 := { stood := { row := labelStaleRow, standIns := [], harness := (true, "99782820a8b8969c55fc00c0f4d57c4b4d0faec9ffaf1d049924c10bc5937507"), looks := false }, kinds := [], alts := [], laidByText := true, laidKinds := [.data, .pinned], laidTests := true, laidLooks := .later }
def LabelStaleCardSaid : Prop := Claim7.holds Tryd.pinned (.plain (OpenSpec.ofChange labelStaleSpec)) labelStaleCard

/-- THE TIED CARD OF 'stavelaw10.LabelOwn'. -/
def labelOwnCard : Claim7 := { stood := { row := labelOwnRow, standIns := [], harness := (true, "99782820a8b8969c55fc00c0f4d57c4b4d0faec9ffaf1d049924c10bc5937507"), looks := false }, kinds := [], alts := [], laidByText := true, laidKinds := [.data, .pinned], laidTests := true, laidLooks := .later }
def LabelOwnCardSaid : Prop := Claim7.holds Tryd.pinned (.plain (OpenSpec.ofChange labelOwnSpec)) labelOwnCard

/-- THE TIED CARD OF 'stavelaw10.LabelNexts'. -/
def labelNextsCard : Claim7 := { stood := { row := labelNextsRow, standIns := [], harness := (true, "99782820a8b8969c55fc00c0f4d57c4b4d0faec9ffaf1d049924c10bc5937507"), looks := false }, kinds := [], alts := [], laidByText := true, laidKinds := [.data, .pinned], laidTests := true, laidLooks := .later }
def LabelNextsCardSaid : Prop := Claim7.holds Tryd.pinned (.plain (OpenSpec.ofChange labelNextsSpec)) labelNextsCard

/-- THE SECOND FORM's CARD OF 'stavelaw10.LabelTells'. -/
def labelTellsUptoCard : Claim7 := { stood := { row := labelTellsUptoRow, standIns := [], harness := (true, "99782820a8b8969c55fc00c0f4d57c4b4d0faec9ffaf1d049924c10bc5937507"), looks := false }, kinds := [], alts := [], laidByText := true, laidKinds := [.data, .pinned], laidTests := true, laidLooks := .later }
def LabelTellsUptoCardSaid : Prop := Claim7.holds Tryd.pinned (.plain (OpenSpec.upto labelTellsSpec)) labelTellsUptoCard

/-- THE SECOND FORM's CARD OF 'stavelaw10.LabelBack'. -/
def labelBackUptoCard : Claim7 := { stood := { row := labelBackUptoRow, standIns := [], harness := (true, "99782820a8b8969c55fc00c0f4d57c4b4d0faec9ffaf1d049924c10bc5937507"), looks := false }, kinds := [], alts := [], laidByText := true, laidKinds := [.data, .pinned], laidTests := true, laidLooks := .later }
def LabelBackUptoCardSaid : Prop := Claim7.holds Tryd.pinned (.plain (OpenSpec.upto labelBackSpec)) labelBackUptoCard

/-- THE SECOND FORM's CARD OF 'stavelaw10.LabelChooses'. -/
def labelChoosesUptoCard : Claim7 := { stood := { row := labelChoosesUptoRow, standIns := [], harness := (true, "99782820a8b8969c55fc00c0f4d57c4b4d0faec9ffaf1d049924c10bc5937507"), looks := false }, kinds := [], alts := [], laidByText := true, laidKinds := [.data, .pinned], laidTests := true, laidLooks := .later }
def LabelChoosesUptoCardSaid : Prop := Claim7.holds Tryd.pinned (.plain (OpenSpec.upto labelChoosesSpec)) labelChoosesUptoCard

/-- THE SECOND FORM's CARD OF 'stavelaw10.LabelCounts'. -/
def labelCountsUptoCard : Claim7 := { stood := { row := labelCountsUptoRow, standIns := [], harness := (true, "99782820a8b8969c55fc00c0f4d57c4b4d0faec9ffaf1d049924c10bc5937507"), looks := false }, kinds := [], alts := [], laidByText := true, laidKinds := [.data, .pinned], laidTests := true, laidLooks := .later }
def LabelCountsUptoCardSaid : Prop := Claim7.holds Tryd.pinned (.plain (OpenSpec.upto labelCountsSpec)) labelCountsUptoCard

/-- THE SECOND FORM's CARD OF 'stavelaw10.LabelStale'. -/
def labelStaleUptoCard : Claim7 := { stood := { row := labelStaleUptoRow, standIns := [], harness := (true, "99782820a8b8969c55fc00c0f4d57c4b4d0faec9ffaf1d049924c10bc5937507"), looks := false }, kinds := [], alts := [], laidByText := true, laidKinds := [.data, .pinned], laidTests := true, laidLooks := .later }
def LabelStaleUptoCardSaid : Prop := Claim7.holds Tryd.pinned (.plain (OpenSpec.upto labelStaleSpec)) labelStaleUptoCard

/-- THE SECOND FORM's CARD OF 'stavelaw10.LabelOwn'. -/
def labelOwnUptoCard : Claim7 := { stood := { row := labelOwnUptoRow, standIns := [], harness := (true, "99782820a8b8969c55fc00c0f4d57c4b4d0faec9ffaf1d049924c10bc5937507"), looks := false }, kinds := [], alts := [], laidByText := true, laidKinds := [.data, .pinned], laidTests := true, laidLooks := .later }
def LabelOwnUptoCardSaid : Prop := Claim7.holds Tryd.pinned (.plain (OpenSpec.upto labelOwnSpec)) labelOwnUptoCard

/-- THE SECOND FORM's CARD OF 'stavelaw10.LabelNexts'. -/
def labelNextsUptoCard : Claim7 := { stood := { row := labelNextsUptoRow, standIns := [], harness := (true, "99782820a8b8969c55fc00c0f4d57c4b4d0faec9ffaf1d049924c10bc5937507"), looks := false }, kinds := [], alts := [], laidByText := true, laidKinds := [.data, .pinned], laidTests := true, laidLooks := .later }
def LabelNextsUptoCardSaid : Prop := Claim7.holds Tryd.pinned (.plain (OpenSpec.upto labelNextsSpec)) labelNextsUptoCard
end Rows
end Go.Proofs.YtaopknddpagjeaaDoor
