/-
  No cell of these rows narrows 'for every input' (looked for: loops, veiled, ifaces, maps, wideKeys, modest, calm, conditions, laid).
  DERIVED. THE GIVEN ROWS OF THIS SEAT. 7 by the template 'for every input the law returns true; each argument reads behind the call as it read before'; 0 by the template 'total and deterministic' (their statements: YtbokglifgacodaaTotals.lean).
  GIVEN WITH THE SEED: the statements are not yours to turn. If you find one false, say at which input.
  Laid BY PROGRAM, IN A SANDBOX (cutbox-rows.mjs): the forced cells as the released guide's own fill.sh prints them over the translation 5a9a3416e165374a… (all of the seat's roots in one cut). By AI agents, Wed Nov 11 2026. No macro, syntax, notation, axiom, sorry.
-/
import Derived.Test.YtbokglifgacodaaChecked
import GoSem.Claim
import GoSem.ClaimJoined
import GoSem.ClaimMapViews
import Derived.JoinedTies
import Derived.KernelRfl
namespace Go.Proofs.Ytbokglifgacodaa
/- THE CELL 'sum', in the pinned program and in every row, IS THE sha256 OF THE DUMP (.gsa) THAT YtbokglifgacodaaProg.lean LOADS. Nothing in Lean hashes anything: it is a label: what it is worth is what the hold of that sum in a sandbox is worth. -/
noncomputable def Try.pinned : Pinned := { name := "ytbokglifgacodaa", sum := "5a9a3416e165374a9778768fa7e75750721a38fd5b71d03dfc6c82da4dba306e", checked := Try.checked }
namespace Rows
def none {H : Type} : Left H := { results := [], args := [] }

/-- 'stavelaw08.MemberPlays': WHATEVER THE INPUT: true; the input reads as it did. -/
def memberPlaysSpec : ChangeSpec := { name := "memberPlays", fn := fun _ => fun
  | [d1, d2] => { results := [.lit (.bool true)], args := [d1, d2] }
  | _ => none }
def memberPlaysRow : OpenClaim := { program := "ytbokglifgacodaa", sum := "5a9a3416e165374a9778768fa7e75750721a38fd5b71d03dfc6c82da4dba306e", func := "stave/stavelaw08.MemberPlays", spec := "memberPlays", unfollowed := true, recurses := true, apart := false }
def MemberPlaysSaid : Prop := memberPlaysRow.holds Try.pinned (OpenSpec.ofChange memberPlaysSpec)

/-- ITS FALSE NEIGHBOUR: 'it returns false'. Refute it at one input. -/
def memberPlaysWrong : ChangeSpec := { name := "memberPlays", fn := fun _ => fun
  | [d1, d2] => { results := [.lit (.bool false)], args := [d1, d2] }
  | _ => none }
def MemberPlaysWrongFalsely : Prop := memberPlaysRow.holds Try.pinned (OpenSpec.ofChange memberPlaysWrong)

/-- 'stavelaw08.MemberKeeps': WHATEVER THE INPUT: true; the input reads as it did. -/
def memberKeepsSpec : ChangeSpec := { name := "memberKeeps", fn := fun _ => fun
  | [d1, d2] => { results := [.lit (.bool true)], args := [d1, d2] }
  | _ => none }
def memberKeepsRow : OpenClaim := { program := "ytbokglifgacodaa", sum := "5a9a3416e165374a9778768fa7e75750721a38fd5b71d03dfc6c82da4dba306e", func := "stave/stavelaw08.MemberKeeps", spec := "memberKeeps", unfollowed := true, recurses := true, apart := false }
def MemberKeepsSaid : Prop := memberKeepsRow.holds Try.pinned (OpenSpec.ofChange memberKeepsSpec)

/-- ITS FALSE NEIGHBOUR: 'it returns false'. Refute it at one input. -/
def memberKeepsWrong : ChangeSpec := { name := "memberKeeps", fn := fun _ => fun
  | [d1, d2] => { results := [.lit (.bool false)], args := [d1, d2] }
  | _ => none }
def MemberKeepsWrongFalsely : Prop := memberKeepsRow.holds Try.pinned (OpenSpec.ofChange memberKeepsWrong)

/-- 'stavelaw08.MemberChooses': WHATEVER THE INPUT: true; the input reads as it did. -/
def memberChoosesSpec : ChangeSpec := { name := "memberChooses", fn := fun _ => fun
  | [d1, d2, d3, d4] => { results := [.lit (.bool true)], args := [d1, d2, d3, d4] }
  | _ => none }
def memberChoosesRow : OpenClaim := { program := "ytbokglifgacodaa", sum := "5a9a3416e165374a9778768fa7e75750721a38fd5b71d03dfc6c82da4dba306e", func := "stave/stavelaw08.MemberChooses", spec := "memberChooses", unfollowed := true, recurses := true, apart := false }
def MemberChoosesSaid : Prop := memberChoosesRow.holds Try.pinned (OpenSpec.ofChange memberChoosesSpec)

/-- ITS FALSE NEIGHBOUR: 'it returns false'. Refute it at one input. -/
def memberChoosesWrong : ChangeSpec := { name := "memberChooses", fn := fun _ => fun
  | [d1, d2, d3, d4] => { results := [.lit (.bool false)], args := [d1, d2, d3, d4] }
  | _ => none }
def MemberChoosesWrongFalsely : Prop := memberChoosesRow.holds Try.pinned (OpenSpec.ofChange memberChoosesWrong)

/-- 'stavelaw08.MemberFails': WHATEVER THE INPUT: true; the input reads as it did. -/
def memberFailsSpec : ChangeSpec := { name := "memberFails", fn := fun _ => fun
  | [d1, d2, d3] => { results := [.lit (.bool true)], args := [d1, d2, d3] }
  | _ => none }
def memberFailsRow : OpenClaim := { program := "ytbokglifgacodaa", sum := "5a9a3416e165374a9778768fa7e75750721a38fd5b71d03dfc6c82da4dba306e", func := "stave/stavelaw08.MemberFails", spec := "memberFails", unfollowed := true, recurses := true, apart := false }
def MemberFailsSaid : Prop := memberFailsRow.holds Try.pinned (OpenSpec.ofChange memberFailsSpec)

/-- ITS FALSE NEIGHBOUR: 'it returns false'. Refute it at one input. -/
def memberFailsWrong : ChangeSpec := { name := "memberFails", fn := fun _ => fun
  | [d1, d2, d3] => { results := [.lit (.bool false)], args := [d1, d2, d3] }
  | _ => none }
def MemberFailsWrongFalsely : Prop := memberFailsRow.holds Try.pinned (OpenSpec.ofChange memberFailsWrong)

/-- 'stavelaw08.MemberRots': WHATEVER THE INPUT: true; the input reads as it did. -/
def memberRotsSpec : ChangeSpec := { name := "memberRots", fn := fun _ => fun
  | [d1, d2, d3, d4] => { results := [.lit (.bool true)], args := [d1, d2, d3, d4] }
  | _ => none }
def memberRotsRow : OpenClaim := { program := "ytbokglifgacodaa", sum := "5a9a3416e165374a9778768fa7e75750721a38fd5b71d03dfc6c82da4dba306e", func := "stave/stavelaw08.MemberRots", spec := "memberRots", unfollowed := true, recurses := true, apart := false }
def MemberRotsSaid : Prop := memberRotsRow.holds Try.pinned (OpenSpec.ofChange memberRotsSpec)

/-- ITS FALSE NEIGHBOUR: 'it returns false'. Refute it at one input. -/
def memberRotsWrong : ChangeSpec := { name := "memberRots", fn := fun _ => fun
  | [d1, d2, d3, d4] => { results := [.lit (.bool false)], args := [d1, d2, d3, d4] }
  | _ => none }
def MemberRotsWrongFalsely : Prop := memberRotsRow.holds Try.pinned (OpenSpec.ofChange memberRotsWrong)

/-- 'stavelaw08.MemberLatest': WHATEVER THE INPUT: true; the input reads as it did. -/
def memberLatestSpec : ChangeSpec := { name := "memberLatest", fn := fun _ => fun
  | [d1, d2] => { results := [.lit (.bool true)], args := [d1, d2] }
  | _ => none }
def memberLatestRow : OpenClaim := { program := "ytbokglifgacodaa", sum := "5a9a3416e165374a9778768fa7e75750721a38fd5b71d03dfc6c82da4dba306e", func := "stave/stavelaw08.MemberLatest", spec := "memberLatest", unfollowed := true, recurses := true, apart := false }
def MemberLatestSaid : Prop := memberLatestRow.holds Try.pinned (OpenSpec.ofChange memberLatestSpec)

/-- ITS FALSE NEIGHBOUR: 'it returns false'. Refute it at one input. -/
def memberLatestWrong : ChangeSpec := { name := "memberLatest", fn := fun _ => fun
  | [d1, d2] => { results := [.lit (.bool false)], args := [d1, d2] }
  | _ => none }
def MemberLatestWrongFalsely : Prop := memberLatestRow.holds Try.pinned (OpenSpec.ofChange memberLatestWrong)

/-- 'stavelaw08.MemberReads': WHATEVER THE INPUT: true; the input reads as it did. -/
def memberReadsSpec : ChangeSpec := { name := "memberReads", fn := fun _ => fun
  | [d1, d2, d3] => { results := [.lit (.bool true)], args := [d1, d2, d3] }
  | _ => none }
def memberReadsRow : OpenClaim := { program := "ytbokglifgacodaa", sum := "5a9a3416e165374a9778768fa7e75750721a38fd5b71d03dfc6c82da4dba306e", func := "stave/stavelaw08.MemberReads", spec := "memberReads", unfollowed := true, recurses := true, apart := false }
def MemberReadsSaid : Prop := memberReadsRow.holds Try.pinned (OpenSpec.ofChange memberReadsSpec)

/-- ITS FALSE NEIGHBOUR: 'it returns false'. Refute it at one input. -/
def memberReadsWrong : ChangeSpec := { name := "memberReads", fn := fun _ => fun
  | [d1, d2, d3] => { results := [.lit (.bool false)], args := [d1, d2, d3] }
  | _ => none }
def MemberReadsWrongFalsely : Prop := memberReadsRow.holds Try.pinned (OpenSpec.ofChange memberReadsWrong)

/- THE SECOND FORM. 'bulk': how many values and letters a reading holds, each counted each time it is reached (what is shared counts as often as it is met; a slice's spare places count too). A statement '..UptoSaid' is the law's where the arguments, and the package variables that the reading takes, are together of bulk at most 1048576: NARROWER than '..Said'. Prove '..Said' where nothing that the law and all that it calls make is longer than what came in: it says more and counts as full. Else prove '..UptoSaid'. A law counts once. -/
mutual
def uptoBulk {H : Type} : DataW H → Nat
  | .lit (.string bytes) => bytes.length + 1
  | .lit _ => 1
  | .nil => 1
  | .ptr d => uptoBulk d + 1
  | .slice elems spare => uptoBulkAll elems + uptoBulkAll spare + 1
  | .agg parts => uptoBulkAll parts + 1
  | .iface _ d => uptoBulk d + 1
  | .map entries => uptoBulkEntries entries + 1
  | .held _ => 1
def uptoBulkAll {H : Type} : List (DataW H) → Nat
  | [] => 0
  | d :: r => uptoBulk d + uptoBulkAll r
def uptoBulkEntries {H : Type} : List (Lit × DataW H) → Nat
  | [] => 0
  | x :: r => uptoBulkEntry x + uptoBulkEntries r
def uptoBulkEntry {H : Type} : Lit × DataW H → Nat
  | (.string bytes, d) => bytes.length + uptoBulk d + 1
  | (_, d) => uptoBulk d + 1
 end
def uptoSmall : (H : Type) → List (DataW H) → Bool := fun _ ds => decide (uptoBulkAll ds ≤ 1048576)
def OpenSpec.upto (s : _root_.Go.ChangeSpec) : _root_.Go.OpenSpec := { _root_.Go.OpenSpec.ofChange s with cond := some uptoSmall }

/-- 'stavelaw08.MemberPlays', WHERE WHAT IT READS IS OF BULK AT MOST 1048576: true; the input reads as it did. -/
def memberPlaysUptoRow : OpenClaim := { program := "ytbokglifgacodaa", sum := "5a9a3416e165374a9778768fa7e75750721a38fd5b71d03dfc6c82da4dba306e", func := "stave/stavelaw08.MemberPlays", spec := "memberPlays", unfollowed := true, recurses := true, apart := false, narrowed := true }
def MemberPlaysUptoSaid : Prop := memberPlaysUptoRow.holds Try.pinned (OpenSpec.upto memberPlaysSpec)

/-- 'stavelaw08.MemberKeeps', WHERE WHAT IT READS IS OF BULK AT MOST 1048576: true; the input reads as it did. -/
def memberKeepsUptoRow : OpenClaim := { program := "ytbokglifgacodaa", sum := "5a9a3416e165374a9778768fa7e75750721a38fd5b71d03dfc6c82da4dba306e", func := "stave/stavelaw08.MemberKeeps", spec := "memberKeeps", unfollowed := true, recurses := true, apart := false, narrowed := true }
def MemberKeepsUptoSaid : Prop := memberKeepsUptoRow.holds Try.pinned (OpenSpec.upto memberKeepsSpec)

/-- 'stavelaw08.MemberChooses', WHERE WHAT IT READS IS OF BULK AT MOST 1048576: true; the input reads as it did. -/
def memberChoosesUptoRow : OpenClaim := { program := "ytbokglifgacodaa", sum := "5a9a3416e165374a9778768fa7e75750721a38fd5b71d03dfc6c82da4dba306e", func := "stave/stavelaw08.MemberChooses", spec := "memberChooses", unfollowed := true, recurses := true, apart := false, narrowed := true }
def MemberChoosesUptoSaid : Prop := memberChoosesUptoRow.holds Try.pinned (OpenSpec.upto memberChoosesSpec)

/-- 'stavelaw08.MemberFails', WHERE WHAT IT READS IS OF BULK AT MOST 1048576: true; the input reads as it did. -/
def memberFailsUptoRow : OpenClaim := { program := "ytbokglifgacodaa", sum := "5a9a3416e165374a9778768fa7e75750721a38fd5b71d03dfc6c82da4dba306e", func := "stave/stavelaw08.MemberFails", spec := "memberFails", unfollowed := true, recurses := true, apart := false, narrowed := true }
def MemberFailsUptoSaid : Prop := memberFailsUptoRow.holds Try.pinned (OpenSpec.upto memberFailsSpec)

/-- 'stavelaw08.MemberRots', WHERE WHAT IT READS IS OF BULK AT MOST 1048576: true; the input reads as it did. -/
def memberRotsUptoRow : OpenClaim := { program := "ytbokglifgacodaa", sum := "5a9a3416e165374a9778768fa7e75750721a38fd5b71d03dfc6c82da4dba306e", func := "stave/stavelaw08.MemberRots", spec := "memberRots", unfollowed := true, recurses := true, apart := false, narrowed := true }
def MemberRotsUptoSaid : Prop := memberRotsUptoRow.holds Try.pinned (OpenSpec.upto memberRotsSpec)

/-- 'stavelaw08.MemberLatest', WHERE WHAT IT READS IS OF BULK AT MOST 1048576: true; the input reads as it did. -/
def memberLatestUptoRow : OpenClaim := { program := "ytbokglifgacodaa", sum := "5a9a3416e165374a9778768fa7e75750721a38fd5b71d03dfc6c82da4dba306e", func := "stave/stavelaw08.MemberLatest", spec := "memberLatest", unfollowed := true, recurses := true, apart := false, narrowed := true }
def MemberLatestUptoSaid : Prop := memberLatestUptoRow.holds Try.pinned (OpenSpec.upto memberLatestSpec)

/-- 'stavelaw08.MemberReads', WHERE WHAT IT READS IS OF BULK AT MOST 1048576: true; the input reads as it did. -/
def memberReadsUptoRow : OpenClaim := { program := "ytbokglifgacodaa", sum := "5a9a3416e165374a9778768fa7e75750721a38fd5b71d03dfc6c82da4dba306e", func := "stave/stavelaw08.MemberReads", spec := "memberReads", unfollowed := true, recurses := true, apart := false, narrowed := true }
def MemberReadsUptoSaid : Prop := memberReadsUptoRow.holds Try.pinned (OpenSpec.upto memberReadsSpec)

end Rows
end Go.Proofs.Ytbokglifgacodaa
