/- Two closed facts of the program. -/
import Derived.Test.YtlbjfigdocbffaaRows
import Derived.ProofKit
namespace Go.Proofs.Ytlbjfigdocbffaa
theorem own : ownKnob Try.prog.godebug = none := by kernel_rfl
theorem laidOut : laidOutB Try.prog = true := by kernel_rfl
end Go.Proofs.Ytlbjfigdocbffaa
