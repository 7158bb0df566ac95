/- count's laws: every script. -/
import Derived.Test.YtbfdjlibhinkiaaCntLaw4
import Derived.Test.YtbfdjlibhinkiaaCntBad
namespace Go.Proofs.Ytbfdjlibhinkiaa
open Go.RowKit
set_option linter.unusedVariables false
set_option linter.unusedSimpArgs false
theorem plays_walk (n : Int) (aa : Option Addr) (ca : Nat) (l : List ActV) (w : World) (hA : Acts w aa l) (ll : l.length ≤ 140737488355328) :
    Calls Try.prog 3 #[.int .i64 n, .slice aa l.length ca] w fun e w' => e = .returned (.bool true) ∧ Below w.heap.size w w' := by
  by_cases h : n < 8 ∨ 200 < n
  · exact plays_bad n _ w h
  · obtain ⟨k, rfl⟩ := Int.eq_ofNat_of_zero_le (show 0 ≤ n by omega)
    exact plays_good k aa ca l w (by omega) (by omega) hA ll
end Go.Proofs.Ytbfdjlibhinkiaa
