/- trie: what is left of a path. -/
import Derived.Test.YtlbjfigdocbffaaTriReach
namespace Go.Proofs.Ytlbjfigdocbffaa
open Go.RowKit
set_option linter.unusedVariables false
set_option linter.unusedSimpArgs false

section
variable {w w' w1 : World} {h g m n : Nat} {u : Value} {C C1 C2 C3 : Nat → Nat} {Z Z1 Z2 Z3 : Int → Bool} {X X1 X2 X3 : Nat → ByteArray} {v : Value} {x : Ending}
/-- What is left of a path: its slice stands on block p, from o on. -/
def restV (p o k : Nat) : Value := .slice (some ⟨p, o, none⟩) k k
theorem rest_slice (p o k : Nat) (W : World) : (Instr.slice 28 (restV p o (k + 1)) (some (.int .i64 1)) none none).run Try.prog W = .ok (restV p (if k = 0 then o else o + 1) k) W := by
  have hs : (sizeOf 3).run Try.prog W = .ok 1 W := by kernel_rfl
  have h1 : (1 : Int) ≤ (k : Int) + 1 := by omega
  unfold restV
  simp [Instr.slice, run_underlying Try.underlying28, Instr.sliceBounds, Instr.sliceBound, asIntOf, hs, h1]
  by_cases hk : k = 0
  · simp [hk]
  · simp only [if_neg hk]
    exact congrArg some (addr_at p o 1)
end
end Go.Proofs.Ytlbjfigdocbffaa
