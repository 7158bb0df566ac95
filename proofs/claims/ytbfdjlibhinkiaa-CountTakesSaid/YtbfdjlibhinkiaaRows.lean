/-
  No cell of these rows narrows 'for every input' (looked for: loops, veiled, ifaces, maps, wideKeys, modest, calm, conditions, laid).
  DERIVED. THE GIVEN ROWS OF THIS SEAT. 5 by the template 'for every input the law returns true; each argument reads behind the call as it read before'; 0 by the template 'total and deterministic' (their statements: YtbfdjlibhinkiaaTotals.lean).
  GIVEN WITH THE SEED: the statements are not yours to turn. If you find one false, say at which input.
  Laid BY PROGRAM, IN A SANDBOX (cutbox-rows.mjs): the forced cells as the released guide's own fill.sh prints them over the translation c0d2eda98bf63ac0… (all of the seat's roots in one cut). By AI agents, Wed Nov 11 2026. No macro, syntax, notation, axiom, sorry.
-/
import Derived.Test.YtbfdjlibhinkiaaChecked
import GoSem.Claim
import GoSem.ClaimJoined
import GoSem.ClaimMapViews
import Derived.JoinedTies
import Derived.KernelRfl
namespace Go.Proofs.Ytbfdjlibhinkiaa
/- THE CELL 'sum', in the pinned program and in every row, IS THE sha256 OF THE DUMP (.gsa) THAT YtbfdjlibhinkiaaProg.lean LOADS. Nothing in Lean hashes anything: it is a label: what it is worth is what the hold of that sum in a sandbox is worth. -/
noncomputable def Try.pinned : Pinned := { name := "ytbfdjlibhinkiaa", sum := "c0d2eda98bf63ac05ecb6cc9bd5edbbbbd0a9b0ebc36e2c70887fb7ff0c46671", checked := Try.checked }
namespace Rows
def none {H : Type} : Left H := { results := [], args := [] }

/-- 'stavelaw16.CountPlays': WHATEVER THE INPUT: true; the input reads as it did. -/
def countPlaysSpec : ChangeSpec := { name := "countPlays", fn := fun _ => fun
  | [d1, d2] => { results := [.lit (.bool true)], args := [d1, d2] }
  | _ => none }
def countPlaysRow : OpenClaim := { program := "ytbfdjlibhinkiaa", sum := "c0d2eda98bf63ac05ecb6cc9bd5edbbbbd0a9b0ebc36e2c70887fb7ff0c46671", func := "stave/stavelaw16.CountPlays", spec := "countPlays", apart := false }
def CountPlaysSaid : Prop := countPlaysRow.holds Try.pinned (OpenSpec.ofChange countPlaysSpec)

/-- ITS FALSE NEIGHBOUR: 'it returns false'. Refute it at one input. -/
def countPlaysWrong : ChangeSpec := { name := "countPlays", fn := fun _ => fun
  | [d1, d2] => { results := [.lit (.bool false)], args := [d1, d2] }
  | _ => none }
def CountPlaysWrongFalsely : Prop := countPlaysRow.holds Try.pinned (OpenSpec.ofChange countPlaysWrong)

/-- 'stavelaw16.CountTakes': WHATEVER THE INPUT: true; the input reads as it did. -/
def countTakesSpec : ChangeSpec := { name := "countTakes", fn := fun _ => fun
  | [d1, d2, d3] => { results := [.lit (.bool true)], args := [d1, d2, d3] }
  | _ => none }
def countTakesRow : OpenClaim := { program := "ytbfdjlibhinkiaa", sum := "c0d2eda98bf63ac05ecb6cc9bd5edbbbbd0a9b0ebc36e2c70887fb7ff0c46671", func := "stave/stavelaw16.CountTakes", spec := "countTakes", apart := false }
def CountTakesSaid : Prop := countTakesRow.holds Try.pinned (OpenSpec.ofChange countTakesSpec)

/-- ITS FALSE NEIGHBOUR: 'it returns false'. Refute it at one input. -/
def countTakesWrong : ChangeSpec := { name := "countTakes", fn := fun _ => fun
  | [d1, d2, d3] => { results := [.lit (.bool false)], args := [d1, d2, d3] }
  | _ => none }
def CountTakesWrongFalsely : Prop := countTakesRow.holds Try.pinned (OpenSpec.ofChange countTakesWrong)

/-- 'stavelaw16.CountBack': WHATEVER THE INPUT: true; the input reads as it did. -/
def countBackSpec : ChangeSpec := { name := "countBack", fn := fun _ => fun
  | [d1, d2, d3] => { results := [.lit (.bool true)], args := [d1, d2, d3] }
  | _ => none }
def countBackRow : OpenClaim := { program := "ytbfdjlibhinkiaa", sum := "c0d2eda98bf63ac05ecb6cc9bd5edbbbbd0a9b0ebc36e2c70887fb7ff0c46671", func := "stave/stavelaw16.CountBack", spec := "countBack", apart := false }
def CountBackSaid : Prop := countBackRow.holds Try.pinned (OpenSpec.ofChange countBackSpec)

/-- ITS FALSE NEIGHBOUR: 'it returns false'. Refute it at one input. -/
def countBackWrong : ChangeSpec := { name := "countBack", fn := fun _ => fun
  | [d1, d2, d3] => { results := [.lit (.bool false)], args := [d1, d2, d3] }
  | _ => none }
def CountBackWrongFalsely : Prop := countBackRow.holds Try.pinned (OpenSpec.ofChange countBackWrong)

/-- 'stavelaw16.CountOnce': WHATEVER THE INPUT: true; the input reads as it did. -/
def countOnceSpec : ChangeSpec := { name := "countOnce", fn := fun _ => fun
  | [d1, d2] => { results := [.lit (.bool true)], args := [d1, d2] }
  | _ => none }
def countOnceRow : OpenClaim := { program := "ytbfdjlibhinkiaa", sum := "c0d2eda98bf63ac05ecb6cc9bd5edbbbbd0a9b0ebc36e2c70887fb7ff0c46671", func := "stave/stavelaw16.CountOnce", spec := "countOnce", apart := false }
def CountOnceSaid : Prop := countOnceRow.holds Try.pinned (OpenSpec.ofChange countOnceSpec)

/-- ITS FALSE NEIGHBOUR: 'it returns false'. Refute it at one input. -/
def countOnceWrong : ChangeSpec := { name := "countOnce", fn := fun _ => fun
  | [d1, d2] => { results := [.lit (.bool false)], args := [d1, d2] }
  | _ => none }
def CountOnceWrongFalsely : Prop := countOnceRow.holds Try.pinned (OpenSpec.ofChange countOnceWrong)

/-- 'stavelaw16.CountLeast': WHATEVER THE INPUT: true; the input reads as it did. -/
def countLeastSpec : ChangeSpec := { name := "countLeast", fn := fun _ => fun
  | [d1, d2, d3] => { results := [.lit (.bool true)], args := [d1, d2, d3] }
  | _ => none }
def countLeastRow : OpenClaim := { program := "ytbfdjlibhinkiaa", sum := "c0d2eda98bf63ac05ecb6cc9bd5edbbbbd0a9b0ebc36e2c70887fb7ff0c46671", func := "stave/stavelaw16.CountLeast", spec := "countLeast", apart := false }
def CountLeastSaid : Prop := countLeastRow.holds Try.pinned (OpenSpec.ofChange countLeastSpec)

/-- ITS FALSE NEIGHBOUR: 'it returns false'. Refute it at one input. -/
def countLeastWrong : ChangeSpec := { name := "countLeast", fn := fun _ => fun
  | [d1, d2, d3] => { results := [.lit (.bool false)], args := [d1, d2, d3] }
  | _ => none }
def CountLeastWrongFalsely : Prop := countLeastRow.holds Try.pinned (OpenSpec.ofChange countLeastWrong)

/- THE SECOND FORM. 'bulk': how many values and letters a reading holds, each counted each time it is reached (what is shared counts as often as it is met; a slice's spare places count too). A statement '..UptoSaid' is the law's where the arguments, and the package variables that the reading takes, are together of bulk at most 1048576: NARROWER than '..Said'. Prove '..Said' where nothing that the law and all that it calls make is longer than what came in: it says more and counts as full. Else prove '..UptoSaid'. A law counts once. -/
mutual
def uptoBulk {H : Type} : DataW H → Nat
  | .lit (.string bytes) => bytes.length + 1
  | .lit _ => 1
  | .nil => 1
  | .ptr d => uptoBulk d + 1
  | .slice elems spare => uptoBulkAll elems + uptoBulkAll spare + 1
  | .agg parts => uptoBulkAll parts + 1
  | .iface _ d => uptoBulk d + 1
  | .map entries => uptoBulkEntries entries + 1
  | .held _ => 1
def uptoBulkAll {H : Type} : List (DataW H) → Nat
  | [] => 0
  | d :: r => uptoBulk d + uptoBulkAll r
def uptoBulkEntries {H : Type} : List (Lit × DataW H) → Nat
  | [] => 0
  | x :: r => uptoBulkEntry x + uptoBulkEntries r
def uptoBulkEntry {H : Type} : Lit × DataW H → Nat
  | (.string bytes, d) => bytes.length + uptoBulk d + 1
  | (_, d) => uptoBulk d + 1
 end
def uptoSmall : (H : Type) → List (DataW H) → Bool := fun _ ds => decide (uptoBulkAll ds ≤ 1048576)
def OpenSpec.upto (s : _root_.Go.ChangeSpec) : _root_.Go.OpenSpec := { _root_.Go.OpenSpec.ofChange s with cond := some uptoSmall }

/-- 'stavelaw16.CountPlays', WHERE WHAT IT READS IS OF BULK AT MOST 1048576: true; the input reads as it did. -/
def countPlaysUptoRow : OpenClaim := { program := "ytbfdjlibhinkiaa", sum := "c0d2eda98bf63ac05ecb6cc9bd5edbbbbd0a9b0ebc36e2c70887fb7ff0c46671", func := "stave/stavelaw16.CountPlays", spec := "countPlays", apart := false, narrowed := true }
def CountPlaysUptoSaid : Prop := countPlaysUptoRow.holds Try.pinned (OpenSpec.upto countPlaysSpec)

/-- 'stavelaw16.CountTakes', WHERE WHAT IT READS IS OF BULK AT MOST 1048576: true; the input reads as it did. -/
def countTakesUptoRow : OpenClaim := { program := "ytbfdjlibhinkiaa", sum := "c0d2eda98bf63ac05ecb6cc9bd5edbbbbd0a9b0ebc36e2c70887fb7ff0c46671", func := "stave/stavelaw16.CountTakes", spec := "countTakes", apart := false, narrowed := true }
def CountTakesUptoSaid : Prop := countTakesUptoRow.holds Try.pinned (OpenSpec.upto countTakesSpec)

/-- 'stavelaw16.CountBack', WHERE WHAT IT READS IS OF BULK AT MOST 1048576: true; the input reads as it did. -/
def countBackUptoRow : OpenClaim := { program := "ytbfdjlibhinkiaa", sum := "c0d2eda98bf63ac05ecb6cc9bd5edbbbbd0a9b0ebc36e2c70887fb7ff0c46671", func := "stave/stavelaw16.CountBack", spec := "countBack", apart := false, narrowed := true }
def CountBackUptoSaid : Prop := countBackUptoRow.holds Try.pinned (OpenSpec.upto countBackSpec)

/-- 'stavelaw16.CountOnce', WHERE WHAT IT READS IS OF BULK AT MOST 1048576: true; the input reads as it did. -/
def countOnceUptoRow : OpenClaim := { program := "ytbfdjlibhinkiaa", sum := "c0d2eda98bf63ac05ecb6cc9bd5edbbbbd0a9b0ebc36e2c70887fb7ff0c46671", func := "stave/stavelaw16.CountOnce", spec := "countOnce", apart := false, narrowed := true }
def CountOnceUptoSaid : Prop := countOnceUptoRow.holds Try.pinned (OpenSpec.upto countOnceSpec)

/-- 'stavelaw16.CountLeast', WHERE WHAT IT READS IS OF BULK AT MOST 1048576: true; the input reads as it did. -/
def countLeastUptoRow : OpenClaim := { program := "ytbfdjlibhinkiaa", sum := "c0d2eda98bf63ac05ecb6cc9bd5edbbbbd0a9b0ebc36e2c70887fb7ff0c46671", func := "stave/stavelaw16.CountLeast", spec := "countLeast", apart := false, narrowed := true }
def CountLeastUptoSaid : Prop := countLeastUptoRow.holds Try.pinned (OpenSpec.upto countLeastSpec)

end Rows
end Go.Proofs.Ytbfdjlibhinkiaa
