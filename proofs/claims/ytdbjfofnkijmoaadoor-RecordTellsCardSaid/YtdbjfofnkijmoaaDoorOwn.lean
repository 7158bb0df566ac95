/- Two closed facts of the program. -/
import Derived.Test.YtdbjfofnkijmoaaDoorRows
import Derived.ProofKit
namespace Go.Proofs.YtdbjfofnkijmoaaDoor
theorem own : ownKnob Tryd.prog.godebug = none := by kernel_rfl
theorem laidOut : laidOutB Tryd.prog = true := by kernel_rfl
end Go.Proofs.YtdbjfofnkijmoaaDoor
