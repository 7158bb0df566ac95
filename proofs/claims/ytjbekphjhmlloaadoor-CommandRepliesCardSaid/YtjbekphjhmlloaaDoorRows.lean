/-
  NARROWER THAN 'FOR EVERY INPUT', by the rows' own cells (each row's printed sentence says how): CommandTells: laid · CommandBack: laid · CommandWhole: laid · CommandTaken: laid · CommandReplies: laid.
  DERIVED. THE GIVEN ROWS OF THIS SEAT. 5 by the template 'for every input the law returns true; each argument reads behind the call as it read before'; 0 by the template 'total and deterministic' (their statements: YtjbekphjhmlloaaDoorTotals.lean).
  GIVEN WITH THE SEED: the statements are not yours to turn. If you find one false, say at which input.
  Laid BY PROGRAM, IN A SANDBOX (cutbox-rows.mjs): the forced cells as the released guide's own fill.sh prints them over the translation ef09d7bf3ba57442… (all of the seat's roots in one cut). By AI agents, Wed Nov 11 2026. No macro, syntax, notation, axiom, sorry.
-/
import Derived.Test.YtjbekphjhmlloaaDoorChecked
import GoSem.Claim
import GoSem.ClaimJoined
import GoSem.ClaimMapViews
import Derived.JoinedTies
import Derived.KernelRfl
namespace Go.Proofs.YtjbekphjhmlloaaDoor
/- THE CELL 'sum', in the pinned program and in every row, IS THE sha256 OF THE DUMP (.gsa) THAT YtjbekphjhmlloaaDoorProg.lean LOADS. Nothing in Lean hashes anything: it is a label: what it is worth is what the hold of that sum in a sandbox is worth. -/
noncomputable def Tryd.pinned : Pinned := { name := "ytjbekphjhmlloaadoor", sum := "ef09d7bf3ba574429d470e013d52dbe44daa816aee67e3d64a1f97c6aa510750", checked := Tryd.checked }
namespace Rows
def none {H : Type} : Left H := { results := [], args := [] }

/- WHAT THE LISTED PACKAGE-LEVEL VARIABLES READ AS WHEN THE CALL BEGINS. Each datum BY PROGRAM (the guide's laid-datum.mjs) off the statement by which the dump's own 'gosem.cut.vars' lays the variable. In a bare row this is a premise. The card (YtjbekphjhmlloaaDoorCards.lean) ties it to the program's text. -/
def laid_stave_command_fields {H : Type} : DataW H := .agg [.agg [.lit (.int .i64 0), .lit (.int .i64 0), .lit (.int .i64 0)], .agg [.lit (.int .i64 1), .lit (.int .i64 4), .lit (.int .i64 0)], .agg [.lit (.int .i64 1), .lit (.int .i64 0), .lit (.int .i64 0)], .agg [.lit (.int .i64 1), .lit (.int .i64 2), .lit (.int .i64 0)], .agg [.lit (.int .i64 1), .lit (.int .i64 4), .lit (.int .i64 0)], .agg [.lit (.int .i64 1), .lit (.int .i64 3), .lit (.int .i64 5)], .agg [.lit (.int .i64 1), .lit (.int .i64 3), .lit (.int .i64 4)], .agg [.lit (.int .i64 1), .lit (.int .i64 3), .lit (.int .i64 4)], .agg [.lit (.int .i64 0), .lit (.int .i64 0), .lit (.int .i64 0)], .agg [.lit (.int .i64 0), .lit (.int .i64 0), .lit (.int .i64 0)]]

/-- 'stavelaw20.CommandTells': WHATEVER THE INPUT: true; the input reads as it did. -/
def commandTellsSpec : ChangeSpec := { name := "commandTells", fn := fun _ => fun
  | [d1, d2, d3] => { results := [.lit (.bool true)], args := [d1, d2, d3] }
  | _ => none }
def commandTellsRow : OpenClaim := { program := "ytjbekphjhmlloaadoor", sum := "ef09d7bf3ba574429d470e013d52dbe44daa816aee67e3d64a1f97c6aa510750", func := "stave/stavelaw20.CommandTells", spec := "commandTells", unfollowed := true, recurses := true, named := ["stave/command.fields"], apart := false, laid := [("stave/command.fields", laid_stave_command_fields)] }
def CommandTellsSaid : Prop := commandTellsRow.holds Tryd.pinned (OpenSpec.ofChange commandTellsSpec)

/-- ITS FALSE NEIGHBOUR: 'it returns false'. Refute it at one input. -/
def commandTellsWrong : ChangeSpec := { name := "commandTells", fn := fun _ => fun
  | [d1, d2, d3] => { results := [.lit (.bool false)], args := [d1, d2, d3] }
  | _ => none }
def CommandTellsWrongFalsely : Prop := commandTellsRow.holds Tryd.pinned (OpenSpec.ofChange commandTellsWrong)

/-- 'stavelaw20.CommandBack': WHATEVER THE INPUT: true; the input reads as it did. -/
def commandBackSpec : ChangeSpec := { name := "commandBack", fn := fun _ => fun
  | [d1, d2] => { results := [.lit (.bool true)], args := [d1, d2] }
  | _ => none }
def commandBackRow : OpenClaim := { program := "ytjbekphjhmlloaadoor", sum := "ef09d7bf3ba574429d470e013d52dbe44daa816aee67e3d64a1f97c6aa510750", func := "stave/stavelaw20.CommandBack", spec := "commandBack", unfollowed := true, recurses := true, named := ["stave/command.fields"], apart := false, laid := [("stave/command.fields", laid_stave_command_fields)] }
def CommandBackSaid : Prop := commandBackRow.holds Tryd.pinned (OpenSpec.ofChange commandBackSpec)

/-- ITS FALSE NEIGHBOUR: 'it returns false'. Refute it at one input. -/
def commandBackWrong : ChangeSpec := { name := "commandBack", fn := fun _ => fun
  | [d1, d2] => { results := [.lit (.bool false)], args := [d1, d2] }
  | _ => none }
def CommandBackWrongFalsely : Prop := commandBackRow.holds Tryd.pinned (OpenSpec.ofChange commandBackWrong)

/-- 'stavelaw20.CommandWhole': WHATEVER THE INPUT: true; the input reads as it did. -/
def commandWholeSpec : ChangeSpec := { name := "commandWhole", fn := fun _ => fun
  | [d1, d2, d3] => { results := [.lit (.bool true)], args := [d1, d2, d3] }
  | _ => none }
def commandWholeRow : OpenClaim := { program := "ytjbekphjhmlloaadoor", sum := "ef09d7bf3ba574429d470e013d52dbe44daa816aee67e3d64a1f97c6aa510750", func := "stave/stavelaw20.CommandWhole", spec := "commandWhole", unfollowed := true, recurses := true, named := ["stave/command.fields"], apart := false, laid := [("stave/command.fields", laid_stave_command_fields)] }
def CommandWholeSaid : Prop := commandWholeRow.holds Tryd.pinned (OpenSpec.ofChange commandWholeSpec)

/-- ITS FALSE NEIGHBOUR: 'it returns false'. Refute it at one input. -/
def commandWholeWrong : ChangeSpec := { name := "commandWhole", fn := fun _ => fun
  | [d1, d2, d3] => { results := [.lit (.bool false)], args := [d1, d2, d3] }
  | _ => none }
def CommandWholeWrongFalsely : Prop := commandWholeRow.holds Tryd.pinned (OpenSpec.ofChange commandWholeWrong)

/-- 'stavelaw20.CommandTaken': WHATEVER THE INPUT: true; the input reads as it did. -/
def commandTakenSpec : ChangeSpec := { name := "commandTaken", fn := fun _ => fun
  | [d] => { results := [.lit (.bool true)], args := [d] }
  | _ => none }
def commandTakenRow : OpenClaim := { program := "ytjbekphjhmlloaadoor", sum := "ef09d7bf3ba574429d470e013d52dbe44daa816aee67e3d64a1f97c6aa510750", func := "stave/stavelaw20.CommandTaken", spec := "commandTaken", unfollowed := true, recurses := true, named := ["stave/command.fields"], apart := false, laid := [("stave/command.fields", laid_stave_command_fields)] }
def CommandTakenSaid : Prop := commandTakenRow.holds Tryd.pinned (OpenSpec.ofChange commandTakenSpec)

/-- ITS FALSE NEIGHBOUR: 'it returns false'. Refute it at one input. -/
def commandTakenWrong : ChangeSpec := { name := "commandTaken", fn := fun _ => fun
  | [d] => { results := [.lit (.bool false)], args := [d] }
  | _ => none }
def CommandTakenWrongFalsely : Prop := commandTakenRow.holds Tryd.pinned (OpenSpec.ofChange commandTakenWrong)

/-- 'stavelaw20.CommandReplies': WHATEVER THE INPUT: true; the input reads as it did. -/
def commandRepliesSpec : ChangeSpec := { name := "commandReplies", fn := fun _ => fun
  | [d1, d2] => { results := [.lit (.bool true)], args := [d1, d2] }
  | _ => none }
def commandRepliesRow : OpenClaim := { program := "ytjbekphjhmlloaadoor", sum := "ef09d7bf3ba574429d470e013d52dbe44daa816aee67e3d64a1f97c6aa510750", func := "stave/stavelaw20.CommandReplies", spec := "commandReplies", unfollowed := true, recurses := true, named := ["stave/command.fields"], apart := false, laid := [("stave/command.fields", laid_stave_command_fields)] }
def CommandRepliesSaid : Prop := commandRepliesRow.holds Tryd.pinned (OpenSpec.ofChange commandRepliesSpec)

/-- ITS FALSE NEIGHBOUR: 'it returns false'. Refute it at one input. -/
def commandRepliesWrong : ChangeSpec := { name := "commandReplies", fn := fun _ => fun
  | [d1, d2] => { results := [.lit (.bool false)], args := [d1, d2] }
  | _ => none }
def CommandRepliesWrongFalsely : Prop := commandRepliesRow.holds Tryd.pinned (OpenSpec.ofChange commandRepliesWrong)

/- THE SECOND FORM. 'bulk': how many values and letters a reading holds, each counted each time it is reached (what is shared counts as often as it is met; a slice's spare places count too). A statement '..UptoSaid' is the law's where the arguments, and the package variables that the reading takes, are together of bulk at most 1048576: NARROWER than '..Said'. Prove '..Said' where nothing that the law and all that it calls make is longer than what came in: it says more and counts as full. Else prove '..UptoSaid'. A law counts once. -/
mutual
def uptoBulk {H : Type} : DataW H → Nat
  | .lit (.string bytes) => bytes.length + 1
  | .lit _ => 1
  | .nil => 1
  | .ptr d => uptoBulk d + 1
  | .slice elems spare => uptoBulkAll elems + uptoBulkAll spare + 1
  | .agg parts => uptoBulkAll parts + 1
  | .iface _ d => uptoBulk d + 1
  | .map entries => uptoBulkEntries entries + 1
  | .held _ => 1
def uptoBulkAll {H : Type} : List (DataW H) → Nat
  | [] => 0
  | d :: r => uptoBulk d + uptoBulkAll r
def uptoBulkEntries {H : Type} : List (Lit × DataW H) → Nat
  | [] => 0
  | x :: r => uptoBulkEntry x + uptoBulkEntries r
def uptoBulkEntry {H : Type} : Lit × DataW H → Nat
  | (.string bytes, d) => bytes.length + uptoBulk d + 1
  | (_, d) => uptoBulk d + 1
 end
def uptoSmall : (H : Type) → List (DataW H) → Bool := fun _ ds => decide (uptoBulkAll ds ≤ 1048576)
def OpenSpec.upto (s : _root_.Go.ChangeSpec) : _root_.Go.OpenSpec := { _root_.Go.OpenSpec.ofChange s with cond := some uptoSmall }

/-- 'stavelaw20.CommandTells', WHERE WHAT IT READS IS OF BULK AT MOST 1048576: true; the input reads as it did. -/
def commandTellsUptoRow : OpenClaim := { program := "ytjbekphjhmlloaadoor", sum := "ef09d7bf3ba574429d470e013d52dbe44daa816aee67e3d64a1f97c6aa510750", func := "stave/stavelaw20.CommandTells", spec := "commandTells", unfollowed := true, recurses := true, named := ["stave/command.fields"], apart := false, laid := [("stave/command.fields", laid_stave_command_fields)], narrowed := true }
def CommandTellsUptoSaid : Prop := commandTellsUptoRow.holds Tryd.pinned (OpenSpec.upto commandTellsSpec)

/-- 'stavelaw20.CommandBack', WHERE WHAT IT READS IS OF BULK AT MOST 1048576: true; the input reads as it did. -/
def commandBackUptoRow : OpenClaim := { program := "ytjbekphjhmlloaadoor", sum := "ef09d7bf3ba574429d470e013d52dbe44daa816aee67e3d64a1f97c6aa510750", func := "stave/stavelaw20.CommandBack", spec := "commandBack", unfollowed := true, recurses := true, named := ["stave/command.fields"], apart := false, laid := [("stave/command.fields", laid_stave_command_fields)], narrowed := true }
def CommandBackUptoSaid : Prop := commandBackUptoRow.holds Tryd.pinned (OpenSpec.upto commandBackSpec)

/-- 'stavelaw20.CommandWhole', WHERE WHAT IT READS IS OF BULK AT MOST 1048576: true; the input reads as it did. -/
def commandWholeUptoRow : OpenClaim := { program := "ytjbekphjhmlloaadoor", sum := "ef09d7bf3ba574429d470e013d52dbe44daa816aee67e3d64a1f97c6aa510750", func := "stave/stavelaw20.CommandWhole", spec := "commandWhole", unfollowed := true, recurses := true, named := ["stave/command.fields"], apart := false, laid := [("stave/command.fields", laid_stave_command_fields)], narrowed := true }
def CommandWholeUptoSaid : Prop := commandWholeUptoRow.holds Tryd.pinned (OpenSpec.upto commandWholeSpec)

/-- 'stavelaw20.CommandTaken', WHERE WHAT IT READS IS OF BULK AT MOST 1048576: true; the input reads as it did. -/
def commandTakenUptoRow : OpenClaim := { program := "ytjbekphjhmlloaadoor", sum := "ef09d7bf3ba574429d470e013d52dbe44daa816aee67e3d64a1f97c6aa510750", func := "stave/stavelaw20.CommandTaken", spec := "commandTaken", unfollowed := true, recurses := true, named := ["stave/command.fields"], apart := false, laid := [("stave/command.fields", laid_stave_command_fields)], narrowed := true }
def CommandTakenUptoSaid : Prop := commandTakenUptoRow.holds Tryd.pinned (OpenSpec.upto commandTakenSpec)

/-- 'stavelaw20.CommandReplies', WHERE WHAT IT READS IS OF BULK AT MOST 1048576: true; the input reads as it did. -/
def commandRepliesUptoRow : OpenClaim := { program := "ytjbekphjhmlloaadoor", sum := "ef09d7bf3ba574429d470e013d52dbe44daa816aee67e3d64a1f97c6aa510750", func := "stave/stavelaw20.CommandReplies", spec := "commandReplies", unfollowed := true, recurses := true, named := ["stave/command.fields"], apart := false, laid := [("stave/command.fields", laid_stave_command_fields)], narrowed := true }
def CommandRepliesUptoSaid : Prop := commandRepliesUptoRow.holds Tryd.pinned (OpenSpec.upto commandRepliesSpec)

end Rows
end Go.Proofs.YtjbekphjhmlloaaDoor
