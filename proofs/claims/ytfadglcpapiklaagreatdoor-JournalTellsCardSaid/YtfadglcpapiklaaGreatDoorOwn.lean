/- Two closed facts of the program. -/
import Derived.Test.YtfadglcpapiklaaGreatDoorRows
import Derived.ProofKit
namespace Go.Proofs.YtfadglcpapiklaaGreatDoor
theorem own : ownKnob Tryz.prog.godebug = none := by kernel_rfl
theorem laidOut : laidOutB Tryz.prog = true := by kernel_rfl
end Go.Proofs.YtfadglcpapiklaaGreatDoor
