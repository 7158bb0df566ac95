/-
  DERIVED. GIVEN WITH THE SEED: THE CARDS: each row of YtjbekphjhmlloaaDoorRows.lean that lists a variable, with what it lists TIED to the program's text (the seventh form; the later family's looks); each row that meets fmt, with fmt's text TOLD by the authors' own Lean function (tested against real Go, not proved from fmt's source: count such statements apart). THE CARD IS WHAT COUNTS. Prove the row's statement (the work); the ties are given (YtjbekphjhmlloaaDoorTie.lean); close each card by the builder's one call (the guide's Derived/Test/ToyasCard.lean, 'card_holds'). Laid BY PROGRAM, IN A SANDBOX (cutbox-door.mjs). By AI agents, Wed Nov 11 2026. No macro, syntax, notation, axiom, sorry.
-/
import Derived.Test.YtjbekphjhmlloaaDoorRows
import GoSem.ClaimSeven
namespace Go.Proofs.YtjbekphjhmlloaaDoor
namespace Rows

/-- THE TIED CARD OF 'stavelaw20.CommandTells'. -/
def commandTellsCard : Claim7 := { stood := { row := commandTellsRow, standIns := [], harness := (true, "4a0f29f86c714918e68864d70d2954d410186ec22f189f823902a6d3887523fd"), looks := false }, kinds := [], alts := [], laidByText := true, laidKinds := [.data], laidTests := true, laidLooks := .later }
def CommandTellsCardSaid : Prop := Claim7.holds Tryd.pinned (.plain (OpenSpec.ofChange commandTellsSpec)) commandTellsCard

/-- THE TIED CARD OF 'stavelaw20.CommandBack'. -/
def commandBackCard : Claim7 := { stood := { row := commandBackRow, standIns := [], harness := (true, "4a0f29f86c714918e68864d70d2954d410186ec22f189f823902a6d3887523fd"), looks := false }, kinds := [], alts := [], laidByText := true, laidKinds := [.data], laidTests := true, laidLooks := .later }
def CommandBackCardSaid : Prop := Claim7.holds Tryd.pinned (.plain (OpenSpec.ofChange commandBackSpec)) commandBackCard

/-- THE TIED CARD OF 'stavelaw20.CommandWhole'. -/
def commandWholeCard : Claim7 := { stood := { row := commandWholeRow, standIns := [], harness := (true, "4a0f29f86c714918e68864d70d2954d410186ec22f189f823902a6d3887523fd"), looks := false }, kinds := [], alts := [], laidByText := true, laidKinds := [.data], laidTests := true, laidLooks := .later }
def CommandWholeCardSaid : Prop := Claim7.holds Tryd.pinned (.plain (OpenSpec.ofChange commandWholeSpec)) commandWholeCard

/-- THE TIED CARD OF 'stavelaw20.CommandTaken'. -/
def commandTakenCard : Claim7 := { stood := { row := commandTakenRow, standIns := [], harness := (true, "4a0f29f86c714918e68864d70d2954d410186ec22f189f823902a6d3887523fd"), looks := false }, kinds := [], alts := [], laidByText := true, laidKinds := [.data], laidTests := true, laidLooks := .later }
def CommandTakenCardSaid : Prop := Claim7.holds Tryd.pinned (.plain (OpenSpec.ofChange commandTakenSpec)) commandTakenCard

/-- THE TIED CARD OF 'stavelaw20.CommandReplies'. -/
def commandRepliesCard : Claim7 := { stood := { row := commandRepliesRow, standIns := [], harness := (true, "4a0f29f86c714918e68864d70d2954d410186ec22f189f823902a6d3887523fd"), looks := false }, kinds := [], alts := [], laidByText := true, laidKinds := [.data], laidTests := true, laidLooks := .later }
def CommandRepliesCardSaid : Prop := Claim7.holds Tryd.pinned (.plain (OpenSpec.ofChange commandRepliesSpec)) commandRepliesCard

/-- THE SECOND FORM's CARD OF 'stavelaw20.CommandTells'. -/
def commandTellsUptoCard : Claim7 := { stood := { row := commandTellsUptoRow, standIns := [], harness := (true, "4a0f29f86c714918e68864d70d2954d410186ec22f189f823902a6d3887523fd"), looks := false }, kinds := [], alts := [], laidByText := true, laidKinds := [.data], laidTests := true, laidLooks := .later }
def CommandTellsUptoCardSaid : Prop := Claim7.holds Tryd.pinned (.plain (OpenSpec.upto commandTellsSpec)) commandTellsUptoCard

/-- THE SECOND FORM's CARD OF 'stavelaw20.CommandBack'. -/
def commandBackUptoCard : Claim7 := { stood := { row := commandBackUptoRow, standIns := [], harness := (true, "4a0f29f86c714918e68864d70d2954d410186ec22f189f823902a6d3887523fd"), looks := false }, kinds := [], alts := [], laidByText := true, laidKinds := [.data], laidTests := true, laidLooks := .later }
def CommandBackUptoCardSaid : Prop := Claim7.holds Tryd.pinned (.plain (OpenSpec.upto commandBackSpec)) commandBackUptoCard

/-- THE SECOND FORM's CARD OF 'stavelaw20.CommandWhole'. -/
def commandWholeUptoCard : Claim7 := { stood := { row := commandWholeUptoRow, standIns := [], harness := (true, "4a0f29f86c714918e68864d70d2954d410186ec22f189f823902a6d3887523fd"), looks := false }, kinds := [], alts := [], laidByText := true, laidKinds := [.data], laidTests := true, laidLooks := .later }
def CommandWholeUptoCardSaid : Prop := Claim7.holds Tryd.pinned (.plain (OpenSpec.upto commandWholeSpec)) commandWholeUptoCard

/-- THE SECOND FORM's CARD OF 'stavelaw20.CommandTaken'. -/
def commandTakenUptoCard : Claim7 := { stood := { row := commandTakenUptoRow, standIns := [], harness := (true, "4a0f29f86c714918e68864d70d2954d410186ec22f189f823902a6d3887523fd"), looks := false }, kinds := [], alts := [], laidByText := true, laidKinds := [.data], laidTests := true, laidLooks := .later }
def CommandTakenUptoCardSaid : Prop := Claim7.holds Tryd.pinned (.plain (OpenSpec.upto commandTakenSpec)) commandTakenUptoCard

/-- THE SECOND FORM's CARD OF 'stavelaw20.CommandReplies'. -/
def commandRepliesUptoCard : Claim7 := { stood := { row := commandRepliesUptoRow, standIns := [], harness := (true, "4a0f29f86c714918e68864d70d2954d410186ec22f189f823902a6d3887523fd"), looks := false }, kinds := [], alts := [], laidByText := true, laidKinds := [.data], laidTests := true, laidLooks := .later }
def CommandRepliesUptoCardSaid : Prop := Claim7.holds Tryd.pinned (.plain (OpenSpec.upto commandRepliesSpec)) commandRepliesUptoCard
end Rows
end Go.Proofs.YtjbekphjhmlloaaDoor
