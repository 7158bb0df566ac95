/-
  No cell of these rows narrows 'for every input' (looked for: loops, veiled, ifaces, maps, wideKeys, modest, calm, conditions, laid).
  DERIVED. THE GIVEN ROWS OF THIS SEAT. 5 by the template 'for every input the law returns true; each argument reads behind the call as it read before'; 0 by the template 'total and deterministic' (their statements: YtomgbnbkfkjifaaTotals.lean).
  GIVEN WITH THE SEED: the statements are not yours to turn. If you find one false, say at which input.
  Laid BY PROGRAM, IN A SANDBOX (cutbox-rows.mjs): the forced cells as the released guide's own fill.sh prints them over the translation 4f07f672b0daa4ca… (all of the seat's roots in one cut). By AI agents, Wed Nov 11 2026. No macro, syntax, notation, axiom, sorry.
-/
import Derived.Test.YtomgbnbkfkjifaaChecked
import GoSem.Claim
import GoSem.ClaimJoined
import GoSem.ClaimMapViews
import Derived.JoinedTies
import Derived.KernelRfl
namespace Go.Proofs.Ytomgbnbkfkjifaa
/- THE CELL 'sum', in the pinned program and in every row, IS THE sha256 OF THE DUMP (.gsa) THAT YtomgbnbkfkjifaaProg.lean LOADS. Nothing in Lean hashes anything: it is a label: what it is worth is what the hold of that sum in a sandbox is worth. -/
noncomputable def Try.pinned : Pinned := { name := "ytomgbnbkfkjifaa", sum := "4f07f672b0daa4cad765d44c16ee8e499f9ac37ed9d3cd602ef7fd6f7bdf6fcd", checked := Try.checked }
namespace Rows
def none {H : Type} : Left H := { results := [], args := [] }

/-- 'stavelaw09.RackPlays': WHATEVER THE INPUT: true; the input reads as it did. -/
def rackPlaysSpec : ChangeSpec := { name := "rackPlays", fn := fun _ => fun
  | [d1, d2, d3] => { results := [.lit (.bool true)], args := [d1, d2, d3] }
  | _ => none }
def rackPlaysRow : OpenClaim := { program := "ytomgbnbkfkjifaa", sum := "4f07f672b0daa4cad765d44c16ee8e499f9ac37ed9d3cd602ef7fd6f7bdf6fcd", func := "stave/stavelaw09.RackPlays", spec := "rackPlays", unfollowed := true, recurses := true, apart := false }
def RackPlaysSaid : Prop := rackPlaysRow.holds Try.pinned (OpenSpec.ofChange rackPlaysSpec)

/-- ITS FALSE NEIGHBOUR: 'it returns false'. Refute it at one input. -/
def rackPlaysWrong : ChangeSpec := { name := "rackPlays", fn := fun _ => fun
  | [d1, d2, d3] => { results := [.lit (.bool false)], args := [d1, d2, d3] }
  | _ => none }
def RackPlaysWrongFalsely : Prop := rackPlaysRow.holds Try.pinned (OpenSpec.ofChange rackPlaysWrong)

/-- 'stavelaw09.RackApart': WHATEVER THE INPUT: true; the input reads as it did. -/
def rackApartSpec : ChangeSpec := { name := "rackApart", fn := fun _ => fun
  | [d1, d2, d3, d4] => { results := [.lit (.bool true)], args := [d1, d2, d3, d4] }
  | _ => none }
def rackApartRow : OpenClaim := { program := "ytomgbnbkfkjifaa", sum := "4f07f672b0daa4cad765d44c16ee8e499f9ac37ed9d3cd602ef7fd6f7bdf6fcd", func := "stave/stavelaw09.RackApart", spec := "rackApart", unfollowed := true, recurses := true, apart := false }
def RackApartSaid : Prop := rackApartRow.holds Try.pinned (OpenSpec.ofChange rackApartSpec)

/-- ITS FALSE NEIGHBOUR: 'it returns false'. Refute it at one input. -/
def rackApartWrong : ChangeSpec := { name := "rackApart", fn := fun _ => fun
  | [d1, d2, d3, d4] => { results := [.lit (.bool false)], args := [d1, d2, d3, d4] }
  | _ => none }
def RackApartWrongFalsely : Prop := rackApartRow.holds Try.pinned (OpenSpec.ofChange rackApartWrong)

/-- 'stavelaw09.RackArms': WHATEVER THE INPUT: true; the input reads as it did. -/
def rackArmsSpec : ChangeSpec := { name := "rackArms", fn := fun _ => fun
  | [d1, d2] => { results := [.lit (.bool true)], args := [d1, d2] }
  | _ => none }
def rackArmsRow : OpenClaim := { program := "ytomgbnbkfkjifaa", sum := "4f07f672b0daa4cad765d44c16ee8e499f9ac37ed9d3cd602ef7fd6f7bdf6fcd", func := "stave/stavelaw09.RackArms", spec := "rackArms", unfollowed := true, recurses := true, apart := false }
def RackArmsSaid : Prop := rackArmsRow.holds Try.pinned (OpenSpec.ofChange rackArmsSpec)

/-- ITS FALSE NEIGHBOUR: 'it returns false'. Refute it at one input. -/
def rackArmsWrong : ChangeSpec := { name := "rackArms", fn := fun _ => fun
  | [d1, d2] => { results := [.lit (.bool false)], args := [d1, d2] }
  | _ => none }
def RackArmsWrongFalsely : Prop := rackArmsRow.holds Try.pinned (OpenSpec.ofChange rackArmsWrong)

/-- 'stavelaw09.RackSame': WHATEVER THE INPUT: true; the input reads as it did. -/
def rackSameSpec : ChangeSpec := { name := "rackSame", fn := fun _ => fun
  | [d1, d2, d3] => { results := [.lit (.bool true)], args := [d1, d2, d3] }
  | _ => none }
def rackSameRow : OpenClaim := { program := "ytomgbnbkfkjifaa", sum := "4f07f672b0daa4cad765d44c16ee8e499f9ac37ed9d3cd602ef7fd6f7bdf6fcd", func := "stave/stavelaw09.RackSame", spec := "rackSame", unfollowed := true, recurses := true, apart := false }
def RackSameSaid : Prop := rackSameRow.holds Try.pinned (OpenSpec.ofChange rackSameSpec)

/-- ITS FALSE NEIGHBOUR: 'it returns false'. Refute it at one input. -/
def rackSameWrong : ChangeSpec := { name := "rackSame", fn := fun _ => fun
  | [d1, d2, d3] => { results := [.lit (.bool false)], args := [d1, d2, d3] }
  | _ => none }
def RackSameWrongFalsely : Prop := rackSameRow.holds Try.pinned (OpenSpec.ofChange rackSameWrong)

/-- 'stavelaw09.RackOnce': WHATEVER THE INPUT: true; the input reads as it did. -/
def rackOnceSpec : ChangeSpec := { name := "rackOnce", fn := fun _ => fun
  | [d1, d2, d3] => { results := [.lit (.bool true)], args := [d1, d2, d3] }
  | _ => none }
def rackOnceRow : OpenClaim := { program := "ytomgbnbkfkjifaa", sum := "4f07f672b0daa4cad765d44c16ee8e499f9ac37ed9d3cd602ef7fd6f7bdf6fcd", func := "stave/stavelaw09.RackOnce", spec := "rackOnce", unfollowed := true, recurses := true, apart := false }
def RackOnceSaid : Prop := rackOnceRow.holds Try.pinned (OpenSpec.ofChange rackOnceSpec)

/-- ITS FALSE NEIGHBOUR: 'it returns false'. Refute it at one input. -/
def rackOnceWrong : ChangeSpec := { name := "rackOnce", fn := fun _ => fun
  | [d1, d2, d3] => { results := [.lit (.bool false)], args := [d1, d2, d3] }
  | _ => none }
def RackOnceWrongFalsely : Prop := rackOnceRow.holds Try.pinned (OpenSpec.ofChange rackOnceWrong)

/- THE SECOND FORM. 'bulk': how many values and letters a reading holds, each counted each time it is reached (what is shared counts as often as it is met; a slice's spare places count too). A statement '..UptoSaid' is the law's where the arguments, and the package variables that the reading takes, are together of bulk at most 1048576: NARROWER than '..Said'. Prove '..Said' where nothing that the law and all that it calls make is longer than what came in: it says more and counts as full. Else prove '..UptoSaid'. A law counts once. -/
mutual
def uptoBulk {H : Type} : DataW H → Nat
  | .lit (.string bytes) => bytes.length + 1
  | .lit _ => 1
  | .nil => 1
  | .ptr d => uptoBulk d + 1
  | .slice elems spare => uptoBulkAll elems + uptoBulkAll spare + 1
  | .agg parts => uptoBulkAll parts + 1
  | .iface _ d => uptoBulk d + 1
  | .map entries => uptoBulkEntries entries + 1
  | .held _ => 1
def uptoBulkAll {H : Type} : List (DataW H) → Nat
  | [] => 0
  | d :: r => uptoBulk d + uptoBulkAll r
def uptoBulkEntries {H : Type} : List (Lit × DataW H) → Nat
  | [] => 0
  | x :: r => uptoBulkEntry x + uptoBulkEntries r
def uptoBulkEntry {H : Type} : Lit × DataW H → Nat
  | (.string bytes, d) => bytes.length + uptoBulk d + 1
  | (_, d) => uptoBulk d + 1
 end
def uptoSmall : (H : Type) → List (DataW H) → Bool := fun _ ds => decide (uptoBulkAll ds ≤ 1048576)
def OpenSpec.upto (s : _root_.Go.ChangeSpec) : _root_.Go.OpenSpec := { _root_.Go.OpenSpec.ofChange s with cond := some uptoSmall }

/-- 'stavelaw09.RackPlays', WHERE WHAT IT READS IS OF BULK AT MOST 1048576: true; the input reads as it did. -/
def rackPlaysUptoRow : OpenClaim := { program := "ytomgbnbkfkjifaa", sum := "4f07f672b0daa4cad765d44c16ee8e499f9ac37ed9d3cd602ef7fd6f7bdf6fcd", func := "stave/stavelaw09.RackPlays", spec := "rackPlays", unfollowed := true, recurses := true, apart := false, narrowed := true }
def RackPlaysUptoSaid : Prop := rackPlaysUptoRow.holds Try.pinned (OpenSpec.upto rackPlaysSpec)

/-- 'stavelaw09.RackApart', WHERE WHAT IT READS IS OF BULK AT MOST 1048576: true; the input reads as it did. -/
def rackApartUptoRow : OpenClaim := { program := "ytomgbnbkfkjifaa", sum := "4f07f672b0daa4cad765d44c16ee8e499f9ac37ed9d3cd602ef7fd6f7bdf6fcd", func := "stave/stavelaw09.RackApart", spec := "rackApart", unfollowed := true, recurses := true, apart := false, narrowed := true }
def RackApartUptoSaid : Prop := rackApartUptoRow.holds Try.pinned (OpenSpec.upto rackApartSpec)

/-- 'stavelaw09.RackArms', WHERE WHAT IT READS IS OF BULK AT MOST 1048576: true; the input reads as it did. -/
def rackArmsUptoRow : OpenClaim := { program := "ytomgbnbkfkjifaa", sum := "4f07f672b0daa4cad765d44c16ee8e499f9ac37ed9d3cd602ef7fd6f7bdf6fcd", func := "stave/stavelaw09.RackArms", spec := "rackArms", unfollowed := true, recurses := true, apart := false, narrowed := true }
def RackArmsUptoSaid : Prop := rackArmsUptoRow.holds Try.pinned (OpenSpec.upto rackArmsSpec)

/-- 'stavelaw09.RackSame', WHERE WHAT IT READS IS OF BULK AT MOST 1048576: true; the input reads as it did. -/
def rackSameUptoRow : OpenClaim := { program := "ytomgbnbkfkjifaa", sum := "4f07f672b0daa4cad765d44c16ee8e499f9ac37ed9d3cd602ef7fd6f7bdf6fcd", func := "stave/stavelaw09.RackSame", spec := "rackSame", unfollowed := true, recurses := true, apart := false, narrowed := true }
def RackSameUptoSaid : Prop := rackSameUptoRow.holds Try.pinned (OpenSpec.upto rackSameSpec)

/-- 'stavelaw09.RackOnce', WHERE WHAT IT READS IS OF BULK AT MOST 1048576: true; the input reads as it did. -/
def rackOnceUptoRow : OpenClaim := { program := "ytomgbnbkfkjifaa", sum := "4f07f672b0daa4cad765d44c16ee8e499f9ac37ed9d3cd602ef7fd6f7bdf6fcd", func := "stave/stavelaw09.RackOnce", spec := "rackOnce", unfollowed := true, recurses := true, apart := false, narrowed := true }
def RackOnceUptoSaid : Prop := rackOnceUptoRow.holds Try.pinned (OpenSpec.upto rackOnceSpec)

end Rows
end Go.Proofs.Ytomgbnbkfkjifaa
