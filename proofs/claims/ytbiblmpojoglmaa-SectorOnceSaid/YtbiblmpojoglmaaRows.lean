/-
  No cell of these rows narrows 'for every input' (looked for: loops, veiled, ifaces, maps, wideKeys, modest, calm, conditions, laid).
  DERIVED. THE GIVEN ROWS OF THIS SEAT. 6 by the template 'for every input the law returns true; each argument reads behind the call as it read before'; 0 by the template 'total and deterministic' (their statements: YtbiblmpojoglmaaTotals.lean).
  GIVEN WITH THE SEED: the statements are not yours to turn. If you find one false, say at which input.
  Laid BY PROGRAM, IN A SANDBOX (cutbox-rows.mjs): the forced cells as the released guide's own fill.sh prints them over the translation 496856fff3106e9d… (all of the seat's roots in one cut). By AI agents, Wed Nov 11 2026. No macro, syntax, notation, axiom, sorry.
-/
import Derived.Test.YtbiblmpojoglmaaChecked
import GoSem.Claim
import GoSem.ClaimJoined
import GoSem.ClaimMapViews
import Derived.JoinedTies
import Derived.KernelRfl
namespace Go.Proofs.Ytbiblmpojoglmaa
/- THE CELL 'sum', in the pinned program and in every row, IS THE sha256 OF THE DUMP (.gsa) THAT YtbiblmpojoglmaaProg.lean LOADS. Nothing in Lean hashes anything: it is a label: what it is worth is what the hold of that sum in a sandbox is worth. -/
noncomputable def Try.pinned : Pinned := { name := "ytbiblmpojoglmaa", sum := "496856fff3106e9df33de61259e13d8cc3ad2a9503295b73280c649289288a2f", checked := Try.checked }
namespace Rows
def none {H : Type} : Left H := { results := [], args := [] }

/-- 'stavelaw06.SectorTells': WHATEVER THE INPUT: true; the input reads as it did. -/
def sectorTellsSpec : ChangeSpec := { name := "sectorTells", fn := fun _ => fun
  | [d1, d2, d3, d4, d5] => { results := [.lit (.bool true)], args := [d1, d2, d3, d4, d5] }
  | _ => none }
def sectorTellsRow : OpenClaim := { program := "ytbiblmpojoglmaa", sum := "496856fff3106e9df33de61259e13d8cc3ad2a9503295b73280c649289288a2f", func := "stave/stavelaw06.SectorTells", spec := "sectorTells", inPlace := ["internal/abi.NoEscape", "internal/bytealg.MakeNoZero"], apart := false }
def SectorTellsSaid : Prop := sectorTellsRow.holds Try.pinned (OpenSpec.ofChange sectorTellsSpec)

/-- ITS FALSE NEIGHBOUR: 'it returns false'. Refute it at one input. -/
def sectorTellsWrong : ChangeSpec := { name := "sectorTells", fn := fun _ => fun
  | [d1, d2, d3, d4, d5] => { results := [.lit (.bool false)], args := [d1, d2, d3, d4, d5] }
  | _ => none }
def SectorTellsWrongFalsely : Prop := sectorTellsRow.holds Try.pinned (OpenSpec.ofChange sectorTellsWrong)

/-- 'stavelaw06.SectorBack': WHATEVER THE INPUT: true; the input reads as it did. -/
def sectorBackSpec : ChangeSpec := { name := "sectorBack", fn := fun _ => fun
  | [d1, d2, d3, d4] => { results := [.lit (.bool true)], args := [d1, d2, d3, d4] }
  | _ => none }
def sectorBackRow : OpenClaim := { program := "ytbiblmpojoglmaa", sum := "496856fff3106e9df33de61259e13d8cc3ad2a9503295b73280c649289288a2f", func := "stave/stavelaw06.SectorBack", spec := "sectorBack", inPlace := ["internal/abi.NoEscape", "internal/bytealg.MakeNoZero"], apart := false }
def SectorBackSaid : Prop := sectorBackRow.holds Try.pinned (OpenSpec.ofChange sectorBackSpec)

/-- ITS FALSE NEIGHBOUR: 'it returns false'. Refute it at one input. -/
def sectorBackWrong : ChangeSpec := { name := "sectorBack", fn := fun _ => fun
  | [d1, d2, d3, d4] => { results := [.lit (.bool false)], args := [d1, d2, d3, d4] }
  | _ => none }
def SectorBackWrongFalsely : Prop := sectorBackRow.holds Try.pinned (OpenSpec.ofChange sectorBackWrong)

/-- 'stavelaw06.SectorPlaces': WHATEVER THE INPUT: true; the input reads as it did. -/
def sectorPlacesSpec : ChangeSpec := { name := "sectorPlaces", fn := fun _ => fun
  | [d1, d2, d3, d4, d5, d6, d7] => { results := [.lit (.bool true)], args := [d1, d2, d3, d4, d5, d6, d7] }
  | _ => none }
def sectorPlacesRow : OpenClaim := { program := "ytbiblmpojoglmaa", sum := "496856fff3106e9df33de61259e13d8cc3ad2a9503295b73280c649289288a2f", func := "stave/stavelaw06.SectorPlaces", spec := "sectorPlaces", inPlace := ["internal/abi.NoEscape", "internal/bytealg.MakeNoZero"], apart := false }
def SectorPlacesSaid : Prop := sectorPlacesRow.holds Try.pinned (OpenSpec.ofChange sectorPlacesSpec)

/-- ITS FALSE NEIGHBOUR: 'it returns false'. Refute it at one input. -/
def sectorPlacesWrong : ChangeSpec := { name := "sectorPlaces", fn := fun _ => fun
  | [d1, d2, d3, d4, d5, d6, d7] => { results := [.lit (.bool false)], args := [d1, d2, d3, d4, d5, d6, d7] }
  | _ => none }
def SectorPlacesWrongFalsely : Prop := sectorPlacesRow.holds Try.pinned (OpenSpec.ofChange sectorPlacesWrong)

/-- 'stavelaw06.SectorTurned': WHATEVER THE INPUT: true; the input reads as it did. -/
def sectorTurnedSpec : ChangeSpec := { name := "sectorTurned", fn := fun _ => fun
  | [d1, d2, d3, d4, d5, d6] => { results := [.lit (.bool true)], args := [d1, d2, d3, d4, d5, d6] }
  | _ => none }
def sectorTurnedRow : OpenClaim := { program := "ytbiblmpojoglmaa", sum := "496856fff3106e9df33de61259e13d8cc3ad2a9503295b73280c649289288a2f", func := "stave/stavelaw06.SectorTurned", spec := "sectorTurned", inPlace := ["internal/abi.NoEscape", "internal/bytealg.MakeNoZero"], apart := false }
def SectorTurnedSaid : Prop := sectorTurnedRow.holds Try.pinned (OpenSpec.ofChange sectorTurnedSpec)

/-- ITS FALSE NEIGHBOUR: 'it returns false'. Refute it at one input. -/
def sectorTurnedWrong : ChangeSpec := { name := "sectorTurned", fn := fun _ => fun
  | [d1, d2, d3, d4, d5, d6] => { results := [.lit (.bool false)], args := [d1, d2, d3, d4, d5, d6] }
  | _ => none }
def SectorTurnedWrongFalsely : Prop := sectorTurnedRow.holds Try.pinned (OpenSpec.ofChange sectorTurnedWrong)

/-- 'stavelaw06.SectorBlank': WHATEVER THE INPUT: true; the input reads as it did. -/
def sectorBlankSpec : ChangeSpec := { name := "sectorBlank", fn := fun _ => fun
  | [d1, d2, d3, d4] => { results := [.lit (.bool true)], args := [d1, d2, d3, d4] }
  | _ => none }
def sectorBlankRow : OpenClaim := { program := "ytbiblmpojoglmaa", sum := "496856fff3106e9df33de61259e13d8cc3ad2a9503295b73280c649289288a2f", func := "stave/stavelaw06.SectorBlank", spec := "sectorBlank", inPlace := ["internal/abi.NoEscape", "internal/bytealg.MakeNoZero"], apart := false }
def SectorBlankSaid : Prop := sectorBlankRow.holds Try.pinned (OpenSpec.ofChange sectorBlankSpec)

/-- ITS FALSE NEIGHBOUR: 'it returns false'. Refute it at one input. -/
def sectorBlankWrong : ChangeSpec := { name := "sectorBlank", fn := fun _ => fun
  | [d1, d2, d3, d4] => { results := [.lit (.bool false)], args := [d1, d2, d3, d4] }
  | _ => none }
def SectorBlankWrongFalsely : Prop := sectorBlankRow.holds Try.pinned (OpenSpec.ofChange sectorBlankWrong)

/-- 'stavelaw06.SectorOnce': WHATEVER THE INPUT: true; the input reads as it did. -/
def sectorOnceSpec : ChangeSpec := { name := "sectorOnce", fn := fun _ => fun
  | [d1, d2, d3, d4] => { results := [.lit (.bool true)], args := [d1, d2, d3, d4] }
  | _ => none }
def sectorOnceRow : OpenClaim := { program := "ytbiblmpojoglmaa", sum := "496856fff3106e9df33de61259e13d8cc3ad2a9503295b73280c649289288a2f", func := "stave/stavelaw06.SectorOnce", spec := "sectorOnce", inPlace := ["internal/abi.NoEscape", "internal/bytealg.MakeNoZero"], apart := false }
def SectorOnceSaid : Prop := sectorOnceRow.holds Try.pinned (OpenSpec.ofChange sectorOnceSpec)

/-- ITS FALSE NEIGHBOUR: 'it returns false'. Refute it at one input. -/
def sectorOnceWrong : ChangeSpec := { name := "sectorOnce", fn := fun _ => fun
  | [d1, d2, d3, d4] => { results := [.lit (.bool false)], args := [d1, d2, d3, d4] }
  | _ => none }
def SectorOnceWrongFalsely : Prop := sectorOnceRow.holds Try.pinned (OpenSpec.ofChange sectorOnceWrong)

/- THE SECOND FORM. 'bulk': how many values and letters a reading holds, each counted each time it is reached (what is shared counts as often as it is met; a slice's spare places count too). A statement '..UptoSaid' is the law's where the arguments, and the package variables that the reading takes, are together of bulk at most 1048576: NARROWER than '..Said'. Prove '..Said' where nothing that the law and all that it calls make is longer than what came in: it says more and counts as full. Else prove '..UptoSaid'. A law counts once. -/
mutual
def uptoBulk {H : Type} : DataW H → Nat
  | .lit (.string bytes) => bytes.length + 1
  | .lit _ => 1
  | .nil => 1
  | .ptr d => uptoBulk d + 1
  | .slice elems spare => uptoBulkAll elems + uptoBulkAll spare + 1
  | .agg parts => uptoBulkAll parts + 1
  | .iface _ d => uptoBulk d + 1
  | .map entries => uptoBulkEntries entries + 1
  | .held _ => 1
def uptoBulkAll {H : Type} : List (DataW H) → Nat
  | [] => 0
  | d :: r => uptoBulk d + uptoBulkAll r
def uptoBulkEntries {H : Type} : List (Lit × DataW H) → Nat
  | [] => 0
  | x :: r => uptoBulkEntry x + uptoBulkEntries r
def uptoBulkEntry {H : Type} : Lit × DataW H → Nat
  | (.string bytes, d) => bytes.length + uptoBulk d + 1
  | (_, d) => uptoBulk d + 1
 end
def uptoSmall : (H : Type) → List (DataW H) → Bool := fun _ ds => decide (uptoBulkAll ds ≤ 1048576)
def OpenSpec.upto (s : _root_.Go.ChangeSpec) : _root_.Go.OpenSpec := { _root_.Go.OpenSpec.ofChange s with cond := some uptoSmall }

/-- 'stavelaw06.SectorTells', WHERE WHAT IT READS IS OF BULK AT MOST 1048576: true; the input reads as it did. -/
def sectorTellsUptoRow : OpenClaim := { program := "ytbiblmpojoglmaa", sum := "496856fff3106e9df33de61259e13d8cc3ad2a9503295b73280c649289288a2f", func := "stave/stavelaw06.SectorTells", spec := "sectorTells", inPlace := ["internal/abi.NoEscape", "internal/bytealg.MakeNoZero"], apart := false, narrowed := true }
def SectorTellsUptoSaid : Prop := sectorTellsUptoRow.holds Try.pinned (OpenSpec.upto sectorTellsSpec)

/-- 'stavelaw06.SectorBack', WHERE WHAT IT READS IS OF BULK AT MOST 1048576: true; the input reads as it did. -/
def sectorBackUptoRow : OpenClaim := { program := "ytbiblmpojoglmaa", sum := "496856fff3106e9df33de61259e13d8cc3ad2a9503295b73280c649289288a2f", func := "stave/stavelaw06.SectorBack", spec := "sectorBack", inPlace := ["internal/abi.NoEscape", "internal/bytealg.MakeNoZero"], apart := false, narrowed := true }
def SectorBackUptoSaid : Prop := sectorBackUptoRow.holds Try.pinned (OpenSpec.upto sectorBackSpec)

/-- 'stavelaw06.SectorPlaces', WHERE WHAT IT READS IS OF BULK AT MOST 1048576: true; the input reads as it did. -/
def sectorPlacesUptoRow : OpenClaim := { program := "ytbiblmpojoglmaa", sum := "496856fff3106e9df33de61259e13d8cc3ad2a9503295b73280c649289288a2f", func := "stave/stavelaw06.SectorPlaces", spec := "sectorPlaces", inPlace := ["internal/abi.NoEscape", "internal/bytealg.MakeNoZero"], apart := false, narrowed := true }
def SectorPlacesUptoSaid : Prop := sectorPlacesUptoRow.holds Try.pinned (OpenSpec.upto sectorPlacesSpec)

/-- 'stavelaw06.SectorTurned', WHERE WHAT IT READS IS OF BULK AT MOST 1048576: true; the input reads as it did. -/
def sectorTurnedUptoRow : OpenClaim := { program := "ytbiblmpojoglmaa", sum := "496856fff3106e9df33de61259e13d8cc3ad2a9503295b73280c649289288a2f", func := "stave/stavelaw06.SectorTurned", spec := "sectorTurned", inPlace := ["internal/abi.NoEscape", "internal/bytealg.MakeNoZero"], apart := false, narrowed := true }
def SectorTurnedUptoSaid : Prop := sectorTurnedUptoRow.holds Try.pinned (OpenSpec.upto sectorTurnedSpec)

/-- 'stavelaw06.SectorBlank', WHERE WHAT IT READS IS OF BULK AT MOST 1048576: true; the input reads as it did. -/
def sectorBlankUptoRow : OpenClaim := { program := "ytbiblmpojoglmaa", sum := "496856fff3106e9df33de61259e13d8cc3ad2a9503295b73280c649289288a2f", func := "stave/stavelaw06.SectorBlank", spec := "sectorBlank", inPlace := ["internal/abi.NoEscape", "internal/bytealg.MakeNoZero"], apart := false, narrowed := true }
def SectorBlankUptoSaid : Prop := sectorBlankUptoRow.holds Try.pinned (OpenSpec.upto sectorBlankSpec)

/-- 'stavelaw06.SectorOnce', WHERE WHAT IT READS IS OF BULK AT MOST 1048576: true; the input reads as it did. -/
def sectorOnceUptoRow : OpenClaim := { program := "ytbiblmpojoglmaa", sum := "496856fff3106e9df33de61259e13d8cc3ad2a9503295b73280c649289288a2f", func := "stave/stavelaw06.SectorOnce", spec := "sectorOnce", inPlace := ["internal/abi.NoEscape", "internal/bytealg.MakeNoZero"], apart := false, narrowed := true }
def SectorOnceUptoSaid : Prop := sectorOnceUptoRow.holds Try.pinned (OpenSpec.upto sectorOnceSpec)

end Rows
end Go.Proofs.Ytbiblmpojoglmaa
