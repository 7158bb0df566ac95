/-
  DERIVED. GIVEN WITH THE SEED: THE CARDS: each row of YtinceihboaiclaaGreatDoorRows.lean that lists a variable, with what it lists TIED to the program's text (the seventh form; the later family's looks); each row that meets fmt, with fmt's text TOLD by the authors' own Lean function (tested against real Go, not proved from fmt's source: count such statements apart). THE CARD IS WHAT COUNTS. Prove the row's statement (the work); the ties are given (YtinceihboaiclaaGreatDoorTie.lean); close each card by the builder's one call (the guide's Derived/Test/ToyasCard.lean, 'card_holds'). Laid BY PROGRAM, IN A SANDBOX (cutbox-door.mjs). By AI agents, Wed Nov 11 2026. No macro, syntax, notation, axiom, sorry.
-/
import Derived.Test.YtinceihboaiclaaGreatDoorRows
import GoSem.ClaimSeven
namespace Go.Proofs.YtinceihboaiclaaGreatDoor
namespace Rows

/-- THE TIED CARD OF 'stavelaw13.StripeBack'. -/
def stripeBackCard : Claim7 := { stood := { row := stripeBackRow, standIns := [], harness := (true, "85e60d1cf9f61d2d5fecab4580abb8ed2a1a54e9be5a98e8819c679579522d64"), looks := false }, kinds := [], alts := [], laidByText := true, laidKinds := [.data, .data], laidTests := true, laidLooks := .later }
def StripeBackCardSaid : Prop := Claim7.holds Tryz.pinned (.plain (OpenSpec.ofChange stripeBackSpec)) stripeBackCard

/-- THE TIED CARD OF 'stavelaw13.StripeApart'. -/
def stripeApartCard : Claim7 := { stood := { row := stripeApartRow, standIns := [], harness := (true, "85e60d1cf9f61d2d5fecab4580abb8ed2a1a54e9be5a98e8819c679579522d64"), looks := false }, kinds := [], alts := [], laidByText := true, laidKinds := [.data, .data], laidTests := true, laidLooks := .later }
def StripeApartCardSaid : Prop := Claim7.holds Tryz.pinned (.plain (OpenSpec.ofChange stripeApartSpec)) stripeApartCard

/-- THE TIED CARD OF 'stavelaw13.StripeParts'. -/
def stripePartsCard : Claim7 := { stood := { row := stripePartsRow, standIns := [], harness := (true, "85e60d1cf9f61d2d5fecab4580abb8ed2a1a54e9be5a98e8819c679579522d64"), looks := false }, kinds := [], alts := [], laidByText := true, laidKinds := [.data, .data], laidTests := true, laidLooks := .later }
def StripePartsCardSaid : Prop := Claim7.holds Tryz.pinned (.plain (OpenSpec.ofChange stripePartsSpec)) stripePartsCard

/-- THE TIED CARD OF 'stavelaw13.StripeReads'. -/
def stripeReadsCard : Claim7 := { stood := { row := stripeReadsRow, standIns := [], harness := (true, "85e60d1cf9f61d2d5fecab4580abb8ed2a1a54e9be5a98e8819c679579522d64"), looks := false }, kinds := [], alts := [], laidByText := true, laidKinds := [.data, .data], laidTests := true, laidLooks := .later }
def StripeReadsCardSaid : Prop := Claim7.holds Tryz.pinned (.plain (OpenSpec.ofChange stripeReadsSpec)) stripeReadsCard

/-- THE SECOND FORM's CARD OF 'stavelaw13.StripeBack'. -/
def stripeBackUptoCard : Claim7 := { stood := { row := stripeBackUptoRow, standIns := [], harness := (true, "85e60d1cf9f61d2d5fecab4580abb8ed2a1a54e9be5a98e8819c679579522d64"), looks := false }, kinds := [], alts := [], laidByText := true, laidKinds := [.data, .data], laidTests := true, laidLooks := .later }
def StripeBackUptoCardSaid : Prop := Claim7.holds Tryz.pinned (.plain (OpenSpec.upto stripeBackSpec)) stripeBackUptoCard

/-- THE SECOND FORM's CARD OF 'stavelaw13.StripeApart'. -/
def stripeApartUptoCard : Claim7 := { stood := { row := stripeApartUptoRow, standIns := [], harness := (true, "85e60d1cf9f61d2d5fecab4580abb8ed2a1a54e9be5a98e8819c679579522d64"), looks := false }, kinds := [], alts := [], laidByText := true, laidKinds := [.data, .data], laidTests := true, laidLooks := .later }
def StripeApartUptoCardSaid : Prop := Claim7.holds Tryz.pinned (.plain (OpenSpec.upto stripeApartSpec)) stripeApartUptoCard

/-- THE SECOND FORM's CARD OF 'stavelaw13.StripeParts'. -/
def stripePartsUptoCard : Claim7 := { stood := { row := stripePartsUptoRow, standIns := [], harness := (true, "85e60d1cf9f61d2d5fecab4580abb8ed2a1a54e9be5a98e8819c679579522d64"), looks := false }, kinds := [], alts := [], laidByText := true, laidKinds := [.data, .data], laidTests := true, laidLooks := .later }
def StripePartsUptoCardSaid : Prop := Claim7.holds Tryz.pinned (.plain (OpenSpec.upto stripePartsSpec)) stripePartsUptoCard

/-- THE SECOND FORM's CARD OF 'stavelaw13.StripeReads'. -/
def stripeReadsUptoCard : Claim7 := { stood := { row := stripeReadsUptoRow, standIns := [], harness := (true, "85e60d1cf9f61d2d5fecab4580abb8ed2a1a54e9be5a98e8819c679579522d64"), looks := false }, kinds := [], alts := [], laidByText := true, laidKinds := [.data, .data], laidTests := true, laidLooks := .later }
def StripeReadsUptoCardSaid : Prop := Claim7.holds Tryz.pinned (.plain (OpenSpec.upto stripeReadsSpec)) stripeReadsUptoCard
end Rows
end Go.Proofs.YtinceihboaiclaaGreatDoor
