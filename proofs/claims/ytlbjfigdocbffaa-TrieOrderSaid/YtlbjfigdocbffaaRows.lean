/-
  No cell of these rows narrows 'for every input' (looked for: loops, veiled, ifaces, maps, wideKeys, modest, calm, conditions, laid).
  DERIVED. THE GIVEN ROWS OF THIS SEAT. 5 by the template 'for every input the law returns true; each argument reads behind the call as it read before'; 0 by the template 'total and deterministic' (their statements: YtlbjfigdocbffaaTotals.lean).
  GIVEN WITH THE SEED: the statements are not yours to turn. If you find one false, say at which input.
  Laid BY PROGRAM, IN A SANDBOX (cutbox-rows.mjs): the forced cells as the released guide's own fill.sh prints them over the translation d8944391eed52734… (all of the seat's roots in one cut). By AI agents, Wed Nov 11 2026. No macro, syntax, notation, axiom, sorry.
-/
import Derived.Test.YtlbjfigdocbffaaChecked
import GoSem.Claim
import GoSem.ClaimJoined
import GoSem.ClaimMapViews
import Derived.JoinedTies
import Derived.KernelRfl
namespace Go.Proofs.Ytlbjfigdocbffaa
/- THE CELL 'sum', in the pinned program and in every row, IS THE sha256 OF THE DUMP (.gsa) THAT YtlbjfigdocbffaaProg.lean LOADS. Nothing in Lean hashes anything: it is a label: what it is worth is what the hold of that sum in a sandbox is worth. -/
noncomputable def Try.pinned : Pinned := { name := "ytlbjfigdocbffaa", sum := "d8944391eed5273469eb2283ce3572392d6b7f781c1fde5a0da632119f249fa9", checked := Try.checked }
namespace Rows
def none {H : Type} : Left H := { results := [], args := [] }

/-- 'stavelaw17.TrieMap': WHATEVER THE INPUT: true; the input reads as it did. -/
def trieMapSpec : ChangeSpec := { name := "trieMap", fn := fun _ => fun
  | [d1, d2] => { results := [.lit (.bool true)], args := [d1, d2] }
  | _ => none }
def trieMapRow : OpenClaim := { program := "ytlbjfigdocbffaa", sum := "d8944391eed5273469eb2283ce3572392d6b7f781c1fde5a0da632119f249fa9", func := "stave/stavelaw17.TrieMap", spec := "trieMap", unfollowed := true, recurses := true, apart := false }
def TrieMapSaid : Prop := trieMapRow.holds Try.pinned (OpenSpec.ofChange trieMapSpec)

/-- ITS FALSE NEIGHBOUR: 'it returns false'. Refute it at one input. -/
def trieMapWrong : ChangeSpec := { name := "trieMap", fn := fun _ => fun
  | [d1, d2] => { results := [.lit (.bool false)], args := [d1, d2] }
  | _ => none }
def TrieMapWrongFalsely : Prop := trieMapRow.holds Try.pinned (OpenSpec.ofChange trieMapWrong)

/-- 'stavelaw17.TrieCounts': WHATEVER THE INPUT: true; the input reads as it did. -/
def trieCountsSpec : ChangeSpec := { name := "trieCounts", fn := fun _ => fun
  | [d] => { results := [.lit (.bool true)], args := [d] }
  | _ => none }
def trieCountsRow : OpenClaim := { program := "ytlbjfigdocbffaa", sum := "d8944391eed5273469eb2283ce3572392d6b7f781c1fde5a0da632119f249fa9", func := "stave/stavelaw17.TrieCounts", spec := "trieCounts", unfollowed := true, recurses := true, apart := false }
def TrieCountsSaid : Prop := trieCountsRow.holds Try.pinned (OpenSpec.ofChange trieCountsSpec)

/-- ITS FALSE NEIGHBOUR: 'it returns false'. Refute it at one input. -/
def trieCountsWrong : ChangeSpec := { name := "trieCounts", fn := fun _ => fun
  | [d] => { results := [.lit (.bool false)], args := [d] }
  | _ => none }
def TrieCountsWrongFalsely : Prop := trieCountsRow.holds Try.pinned (OpenSpec.ofChange trieCountsWrong)

/-- 'stavelaw17.TrieSole': WHATEVER THE INPUT: true; the input reads as it did. -/
def trieSoleSpec : ChangeSpec := { name := "trieSole", fn := fun _ => fun
  | [d] => { results := [.lit (.bool true)], args := [d] }
  | _ => none }
def trieSoleRow : OpenClaim := { program := "ytlbjfigdocbffaa", sum := "d8944391eed5273469eb2283ce3572392d6b7f781c1fde5a0da632119f249fa9", func := "stave/stavelaw17.TrieSole", spec := "trieSole", unfollowed := true, recurses := true, apart := false }
def TrieSoleSaid : Prop := trieSoleRow.holds Try.pinned (OpenSpec.ofChange trieSoleSpec)

/-- ITS FALSE NEIGHBOUR: 'it returns false'. Refute it at one input. -/
def trieSoleWrong : ChangeSpec := { name := "trieSole", fn := fun _ => fun
  | [d] => { results := [.lit (.bool false)], args := [d] }
  | _ => none }
def TrieSoleWrongFalsely : Prop := trieSoleRow.holds Try.pinned (OpenSpec.ofChange trieSoleWrong)

/-- 'stavelaw17.TrieOrder': WHATEVER THE INPUT: true; the input reads as it did. -/
def trieOrderSpec : ChangeSpec := { name := "trieOrder", fn := fun _ => fun
  | [d1, d2] => { results := [.lit (.bool true)], args := [d1, d2] }
  | _ => none }
def trieOrderRow : OpenClaim := { program := "ytlbjfigdocbffaa", sum := "d8944391eed5273469eb2283ce3572392d6b7f781c1fde5a0da632119f249fa9", func := "stave/stavelaw17.TrieOrder", spec := "trieOrder", unfollowed := true, recurses := true, apart := false }
def TrieOrderSaid : Prop := trieOrderRow.holds Try.pinned (OpenSpec.ofChange trieOrderSpec)

/-- ITS FALSE NEIGHBOUR: 'it returns false'. Refute it at one input. -/
def trieOrderWrong : ChangeSpec := { name := "trieOrder", fn := fun _ => fun
  | [d1, d2] => { results := [.lit (.bool false)], args := [d1, d2] }
  | _ => none }
def TrieOrderWrongFalsely : Prop := trieOrderRow.holds Try.pinned (OpenSpec.ofChange trieOrderWrong)

/-- 'stavelaw17.TrieBack': WHATEVER THE INPUT: true; the input reads as it did. -/
def trieBackSpec : ChangeSpec := { name := "trieBack", fn := fun _ => fun
  | [d1, d2] => { results := [.lit (.bool true)], args := [d1, d2] }
  | _ => none }
def trieBackRow : OpenClaim := { program := "ytlbjfigdocbffaa", sum := "d8944391eed5273469eb2283ce3572392d6b7f781c1fde5a0da632119f249fa9", func := "stave/stavelaw17.TrieBack", spec := "trieBack", unfollowed := true, recurses := true, apart := false }
def TrieBackSaid : Prop := trieBackRow.holds Try.pinned (OpenSpec.ofChange trieBackSpec)

/-- ITS FALSE NEIGHBOUR: 'it returns false'. Refute it at one input. -/
def trieBackWrong : ChangeSpec := { name := "trieBack", fn := fun _ => fun
  | [d1, d2] => { results := [.lit (.bool false)], args := [d1, d2] }
  | _ => none }
def TrieBackWrongFalsely : Prop := trieBackRow.holds Try.pinned (OpenSpec.ofChange trieBackWrong)

/- THE SECOND FORM. 'bulk': how many values and letters a reading holds, each counted each time it is reached (what is shared counts as often as it is met; a slice's spare places count too). A statement '..UptoSaid' is the law's where the arguments, and the package variables that the reading takes, are together of bulk at most 1048576: NARROWER than '..Said'. Prove '..Said' where nothing that the law and all that it calls make is longer than what came in: it says more and counts as full. Else prove '..UptoSaid'. A law counts once. -/
mutual
def uptoBulk {H : Type} : DataW H → Nat
  | .lit (.string bytes) => bytes.length + 1
  | .lit _ => 1
  | .nil => 1
  | .ptr d => uptoBulk d + 1
  | .slice elems spare => uptoBulkAll elems + uptoBulkAll spare + 1
  | .agg parts => uptoBulkAll parts + 1
  | .iface _ d => uptoBulk d + 1
  | .map entries => uptoBulkEntries entries + 1
  | .held _ => 1
def uptoBulkAll {H : Type} : List (DataW H) → Nat
  | [] => 0
  | d :: r => uptoBulk d + uptoBulkAll r
def uptoBulkEntries {H : Type} : List (Lit × DataW H) → Nat
  | [] => 0
  | x :: r => uptoBulkEntry x + uptoBulkEntries r
def uptoBulkEntry {H : Type} : Lit × DataW H → Nat
  | (.string bytes, d) => bytes.length + uptoBulk d + 1
  | (_, d) => uptoBulk d + 1
 end
def uptoSmall : (H : Type) → List (DataW H) → Bool := fun _ ds => decide (uptoBulkAll ds ≤ 1048576)
def OpenSpec.upto (s : _root_.Go.ChangeSpec) : _root_.Go.OpenSpec := { _root_.Go.OpenSpec.ofChange s with cond := some uptoSmall }

/-- 'stavelaw17.TrieMap', WHERE WHAT IT READS IS OF BULK AT MOST 1048576: true; the input reads as it did. -/
def trieMapUptoRow : OpenClaim := { program := "ytlbjfigdocbffaa", sum := "d8944391eed5273469eb2283ce3572392d6b7f781c1fde5a0da632119f249fa9", func := "stave/stavelaw17.TrieMap", spec := "trieMap", unfollowed := true, recurses := true, apart := false, narrowed := true }
def TrieMapUptoSaid : Prop := trieMapUptoRow.holds Try.pinned (OpenSpec.upto trieMapSpec)

/-- 'stavelaw17.TrieCounts', WHERE WHAT IT READS IS OF BULK AT MOST 1048576: true; the input reads as it did. -/
def trieCountsUptoRow : OpenClaim := { program := "ytlbjfigdocbffaa", sum := "d8944391eed5273469eb2283ce3572392d6b7f781c1fde5a0da632119f249fa9", func := "stave/stavelaw17.TrieCounts", spec := "trieCounts", unfollowed := true, recurses := true, apart := false, narrowed := true }
def TrieCountsUptoSaid : Prop := trieCountsUptoRow.holds Try.pinned (OpenSpec.upto trieCountsSpec)

/-- 'stavelaw17.TrieSole', WHERE WHAT IT READS IS OF BULK AT MOST 1048576: true; the input reads as it did. -/
def trieSoleUptoRow : OpenClaim := { program := "ytlbjfigdocbffaa", sum := "d8944391eed5273469eb2283ce3572392d6b7f781c1fde5a0da632119f249fa9", func := "stave/stavelaw17.TrieSole", spec := "trieSole", unfollowed := true, recurses := true, apart := false, narrowed := true }
def TrieSoleUptoSaid : Prop := trieSoleUptoRow.holds Try.pinned (OpenSpec.upto trieSoleSpec)

/-- 'stavelaw17.TrieOrder', WHERE WHAT IT READS IS OF BULK AT MOST 1048576: true; the input reads as it did. -/
def trieOrderUptoRow : OpenClaim := { program := "ytlbjfigdocbffaa", sum := "d8944391eed5273469eb2283ce3572392d6b7f781c1fde5a0da632119f249fa9", func := "stave/stavelaw17.TrieOrder", spec := "trieOrder", unfollowed := true, recurses := true, apart := false, narrowed := true }
def TrieOrderUptoSaid : Prop := trieOrderUptoRow.holds Try.pinned (OpenSpec.upto trieOrderSpec)

/-- 'stavelaw17.TrieBack', WHERE WHAT IT READS IS OF BULK AT MOST 1048576: true; the input reads as it did. -/
def trieBackUptoRow : OpenClaim := { program := "ytlbjfigdocbffaa", sum := "d8944391eed5273469eb2283ce3572392d6b7f781c1fde5a0da632119f249fa9", func := "stave/stavelaw17.TrieBack", spec := "trieBack", unfollowed := true, recurses := true, apart := false, narrowed := true }
def TrieBackUptoSaid : Prop := trieBackUptoRow.holds Try.pinned (OpenSpec.upto trieBackSpec)

end Rows
end Go.Proofs.Ytlbjfigdocbffaa
