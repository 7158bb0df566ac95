/-
  No cell of these rows narrows 'for every input' (looked for: loops, veiled, ifaces, maps, wideKeys, modest, calm, conditions, laid).
  DERIVED. THE GIVEN ROWS OF THIS SEAT. 6 by the template 'for every input the law returns true; each argument reads behind the call as it read before'; 0 by the template 'total and deterministic' (their statements: YtfepfmibcjlkiaaTotals.lean).
  GIVEN WITH THE SEED: the statements are not yours to turn. If you find one false, say at which input.
  Laid BY PROGRAM, IN A SANDBOX (cutbox-rows.mjs): the forced cells as the released guide's own fill.sh prints them over the translation 5310a4d283cdcf18… (all of the seat's roots in one cut). By AI agents, Wed Nov 11 2026. No macro, syntax, notation, axiom, sorry.
-/
import Derived.Test.YtfepfmibcjlkiaaChecked
import GoSem.Claim
import GoSem.ClaimJoined
import GoSem.ClaimMapViews
import Derived.JoinedTies
import Derived.KernelRfl
namespace Go.Proofs.Ytfepfmibcjlkiaa
/- THE CELL 'sum', in the pinned program and in every row, IS THE sha256 OF THE DUMP (.gsa) THAT YtfepfmibcjlkiaaProg.lean LOADS. Nothing in Lean hashes anything: it is a label: what it is worth is what the hold of that sum in a sandbox is worth. -/
noncomputable def Try.pinned : Pinned := { name := "ytfepfmibcjlkiaa", sum := "5310a4d283cdcf185dda7acd2c8511f64c2fc90aa35f5921ce63d0ca9d0a237c", checked := Try.checked }
namespace Rows
def none {H : Type} : Left H := { results := [], args := [] }

/-- 'stavelaw07.GeoTells': WHATEVER THE INPUT: true; the input reads as it did. -/
def geoTellsSpec : ChangeSpec := { name := "geoTells", fn := fun _ => fun
  | [d1, d2, d3, d4] => { results := [.lit (.bool true)], args := [d1, d2, d3, d4] }
  | _ => none }
def geoTellsRow : OpenClaim := { program := "ytfepfmibcjlkiaa", sum := "5310a4d283cdcf185dda7acd2c8511f64c2fc90aa35f5921ce63d0ca9d0a237c", func := "stave/stavelaw07.GeoTells", spec := "geoTells", apart := false }
def GeoTellsSaid : Prop := geoTellsRow.holds Try.pinned (OpenSpec.ofChange geoTellsSpec)

/-- ITS FALSE NEIGHBOUR: 'it returns false'. Refute it at one input. -/
def geoTellsWrong : ChangeSpec := { name := "geoTells", fn := fun _ => fun
  | [d1, d2, d3, d4] => { results := [.lit (.bool false)], args := [d1, d2, d3, d4] }
  | _ => none }
def GeoTellsWrongFalsely : Prop := geoTellsRow.holds Try.pinned (OpenSpec.ofChange geoTellsWrong)

/-- 'stavelaw07.GeoRight': WHATEVER THE INPUT: true; the input reads as it did. -/
def geoRightSpec : ChangeSpec := { name := "geoRight", fn := fun _ => fun
  | [d1, d2, d3, d4] => { results := [.lit (.bool true)], args := [d1, d2, d3, d4] }
  | _ => none }
def geoRightRow : OpenClaim := { program := "ytfepfmibcjlkiaa", sum := "5310a4d283cdcf185dda7acd2c8511f64c2fc90aa35f5921ce63d0ca9d0a237c", func := "stave/stavelaw07.GeoRight", spec := "geoRight", apart := false }
def GeoRightSaid : Prop := geoRightRow.holds Try.pinned (OpenSpec.ofChange geoRightSpec)

/-- ITS FALSE NEIGHBOUR: 'it returns false'. Refute it at one input. -/
def geoRightWrong : ChangeSpec := { name := "geoRight", fn := fun _ => fun
  | [d1, d2, d3, d4] => { results := [.lit (.bool false)], args := [d1, d2, d3, d4] }
  | _ => none }
def GeoRightWrongFalsely : Prop := geoRightRow.holds Try.pinned (OpenSpec.ofChange geoRightWrong)

/-- 'stavelaw07.GeoOnce': WHATEVER THE INPUT: true; the input reads as it did. -/
def geoOnceSpec : ChangeSpec := { name := "geoOnce", fn := fun _ => fun
  | [d1, d2, d3] => { results := [.lit (.bool true)], args := [d1, d2, d3] }
  | _ => none }
def geoOnceRow : OpenClaim := { program := "ytfepfmibcjlkiaa", sum := "5310a4d283cdcf185dda7acd2c8511f64c2fc90aa35f5921ce63d0ca9d0a237c", func := "stave/stavelaw07.GeoOnce", spec := "geoOnce", apart := false }
def GeoOnceSaid : Prop := geoOnceRow.holds Try.pinned (OpenSpec.ofChange geoOnceSpec)

/-- ITS FALSE NEIGHBOUR: 'it returns false'. Refute it at one input. -/
def geoOnceWrong : ChangeSpec := { name := "geoOnce", fn := fun _ => fun
  | [d1, d2, d3] => { results := [.lit (.bool false)], args := [d1, d2, d3] }
  | _ => none }
def GeoOnceWrongFalsely : Prop := geoOnceRow.holds Try.pinned (OpenSpec.ofChange geoOnceWrong)

/-- 'stavelaw07.GeoTurns': WHATEVER THE INPUT: true; the input reads as it did. -/
def geoTurnsSpec : ChangeSpec := { name := "geoTurns", fn := fun _ => fun
  | [d1, d2, d3, d4] => { results := [.lit (.bool true)], args := [d1, d2, d3, d4] }
  | _ => none }
def geoTurnsRow : OpenClaim := { program := "ytfepfmibcjlkiaa", sum := "5310a4d283cdcf185dda7acd2c8511f64c2fc90aa35f5921ce63d0ca9d0a237c", func := "stave/stavelaw07.GeoTurns", spec := "geoTurns", apart := false }
def GeoTurnsSaid : Prop := geoTurnsRow.holds Try.pinned (OpenSpec.ofChange geoTurnsSpec)

/-- ITS FALSE NEIGHBOUR: 'it returns false'. Refute it at one input. -/
def geoTurnsWrong : ChangeSpec := { name := "geoTurns", fn := fun _ => fun
  | [d1, d2, d3, d4] => { results := [.lit (.bool false)], args := [d1, d2, d3, d4] }
  | _ => none }
def GeoTurnsWrongFalsely : Prop := geoTurnsRow.holds Try.pinned (OpenSpec.ofChange geoTurnsWrong)

/-- 'stavelaw07.GeoSpread': WHATEVER THE INPUT: true; the input reads as it did. -/
def geoSpreadSpec : ChangeSpec := { name := "geoSpread", fn := fun _ => fun
  | [d1, d2, d3] => { results := [.lit (.bool true)], args := [d1, d2, d3] }
  | _ => none }
def geoSpreadRow : OpenClaim := { program := "ytfepfmibcjlkiaa", sum := "5310a4d283cdcf185dda7acd2c8511f64c2fc90aa35f5921ce63d0ca9d0a237c", func := "stave/stavelaw07.GeoSpread", spec := "geoSpread", apart := false }
def GeoSpreadSaid : Prop := geoSpreadRow.holds Try.pinned (OpenSpec.ofChange geoSpreadSpec)

/-- ITS FALSE NEIGHBOUR: 'it returns false'. Refute it at one input. -/
def geoSpreadWrong : ChangeSpec := { name := "geoSpread", fn := fun _ => fun
  | [d1, d2, d3] => { results := [.lit (.bool false)], args := [d1, d2, d3] }
  | _ => none }
def GeoSpreadWrongFalsely : Prop := geoSpreadRow.holds Try.pinned (OpenSpec.ofChange geoSpreadWrong)

/-- 'stavelaw07.GeoTurn': WHATEVER THE INPUT: true; the input reads as it did. -/
def geoTurnSpec : ChangeSpec := { name := "geoTurn", fn := fun _ => fun
  | [d1, d2, d3] => { results := [.lit (.bool true)], args := [d1, d2, d3] }
  | _ => none }
def geoTurnRow : OpenClaim := { program := "ytfepfmibcjlkiaa", sum := "5310a4d283cdcf185dda7acd2c8511f64c2fc90aa35f5921ce63d0ca9d0a237c", func := "stave/stavelaw07.GeoTurn", spec := "geoTurn", apart := false }
def GeoTurnSaid : Prop := geoTurnRow.holds Try.pinned (OpenSpec.ofChange geoTurnSpec)

/-- ITS FALSE NEIGHBOUR: 'it returns false'. Refute it at one input. -/
def geoTurnWrong : ChangeSpec := { name := "geoTurn", fn := fun _ => fun
  | [d1, d2, d3] => { results := [.lit (.bool false)], args := [d1, d2, d3] }
  | _ => none }
def GeoTurnWrongFalsely : Prop := geoTurnRow.holds Try.pinned (OpenSpec.ofChange geoTurnWrong)

/- THE SECOND FORM. 'bulk': how many values and letters a reading holds, each counted each time it is reached (what is shared counts as often as it is met; a slice's spare places count too). A statement '..UptoSaid' is the law's where the arguments, and the package variables that the reading takes, are together of bulk at most 1048576: NARROWER than '..Said'. Prove '..Said' where nothing that the law and all that it calls make is longer than what came in: it says more and counts as full. Else prove '..UptoSaid'. A law counts once. -/
mutual
def uptoBulk {H : Type} : DataW H → Nat
  | .lit (.string bytes) => bytes.length + 1
  | .lit _ => 1
  | .nil => 1
  | .ptr d => uptoBulk d + 1
  | .slice elems spare => uptoBulkAll elems + uptoBulkAll spare + 1
  | .agg parts => uptoBulkAll parts + 1
  | .iface _ d => uptoBulk d + 1
  | .map entries => uptoBulkEntries entries + 1
  | .held _ => 1
def uptoBulkAll {H : Type} : List (DataW H) → Nat
  | [] => 0
  | d :: r => uptoBulk d + uptoBulkAll r
def uptoBulkEntries {H : Type} : List (Lit × DataW H) → Nat
  | [] => 0
  | x :: r => uptoBulkEntry x + uptoBulkEntries r
def uptoBulkEntry {H : Type} : Lit × DataW H → Nat
  | (.string bytes, d) => bytes.length + uptoBulk d + 1
  | (_, d) => uptoBulk d + 1
 end
def uptoSmall : (H : Type) → List (DataW H) → Bool := fun _ ds => decide (uptoBulkAll ds ≤ 1048576)
def OpenSpec.upto (s : _root_.Go.ChangeSpec) : _root_.Go.OpenSpec := { _root_.Go.OpenSpec.ofChange s with cond := some uptoSmall }

/-- 'stavelaw07.GeoTells', WHERE WHAT IT READS IS OF BULK AT MOST 1048576: true; the input reads as it did. -/
def geoTellsUptoRow : OpenClaim := { program := "ytfepfmibcjlkiaa", sum := "5310a4d283cdcf185dda7acd2c8511f64c2fc90aa35f5921ce63d0ca9d0a237c", func := "stave/stavelaw07.GeoTells", spec := "geoTells", apart := false, narrowed := true }
def GeoTellsUptoSaid : Prop := geoTellsUptoRow.holds Try.pinned (OpenSpec.upto geoTellsSpec)

/-- 'stavelaw07.GeoRight', WHERE WHAT IT READS IS OF BULK AT MOST 1048576: true; the input reads as it did. -/
def geoRightUptoRow : OpenClaim := { program := "ytfepfmibcjlkiaa", sum := "5310a4d283cdcf185dda7acd2c8511f64c2fc90aa35f5921ce63d0ca9d0a237c", func := "stave/stavelaw07.GeoRight", spec := "geoRight", apart := false, narrowed := true }
def GeoRightUptoSaid : Prop := geoRightUptoRow.holds Try.pinned (OpenSpec.upto geoRightSpec)

/-- 'stavelaw07.GeoOnce', WHERE WHAT IT READS IS OF BULK AT MOST 1048576: true; the input reads as it did. -/
def geoOnceUptoRow : OpenClaim := { program := "ytfepfmibcjlkiaa", sum := "5310a4d283cdcf185dda7acd2c8511f64c2fc90aa35f5921ce63d0ca9d0a237c", func := "stave/stavelaw07.GeoOnce", spec := "geoOnce", apart := false, narrowed := true }
def GeoOnceUptoSaid : Prop := geoOnceUptoRow.holds Try.pinned (OpenSpec.upto geoOnceSpec)

/-- 'stavelaw07.GeoTurns', WHERE WHAT IT READS IS OF BULK AT MOST 1048576: true; the input reads as it did. -/
def geoTurnsUptoRow : OpenClaim := { program := "ytfepfmibcjlkiaa", sum := "5310a4d283cdcf185dda7acd2c8511f64c2fc90aa35f5921ce63d0ca9d0a237c", func := "stave/stavelaw07.GeoTurns", spec := "geoTurns", apart := false, narrowed := true }
def GeoTurnsUptoSaid : Prop := geoTurnsUptoRow.holds Try.pinned (OpenSpec.upto geoTurnsSpec)

/-- 'stavelaw07.GeoSpread', WHERE WHAT IT READS IS OF BULK AT MOST 1048576: true; the input reads as it did. -/
def geoSpreadUptoRow : OpenClaim := { program := "ytfepfmibcjlkiaa", sum := "5310a4d283cdcf185dda7acd2c8511f64c2fc90aa35f5921ce63d0ca9d0a237c", func := "stave/stavelaw07.GeoSpread", spec := "geoSpread", apart := false, narrowed := true }
def GeoSpreadUptoSaid : Prop := geoSpreadUptoRow.holds Try.pinned (OpenSpec.upto geoSpreadSpec)

/-- 'stavelaw07.GeoTurn', WHERE WHAT IT READS IS OF BULK AT MOST 1048576: true; the input reads as it did. -/
def geoTurnUptoRow : OpenClaim := { program := "ytfepfmibcjlkiaa", sum := "5310a4d283cdcf185dda7acd2c8511f64c2fc90aa35f5921ce63d0ca9d0a237c", func := "stave/stavelaw07.GeoTurn", spec := "geoTurn", apart := false, narrowed := true }
def GeoTurnUptoSaid : Prop := geoTurnUptoRow.holds Try.pinned (OpenSpec.upto geoTurnSpec)

end Rows
end Go.Proofs.Ytfepfmibcjlkiaa
