/- What an rs card leans on. -/
import Derived.Test.YtcmnojflllcdfaaDoorRsLaw9
import Derived.Test.YtcmnojflllcdfaaDoorTabRow
import Derived.Test.YtcmnojflllcdfaaDoorArgs
namespace Go.Proofs.YtcmnojflllcdfaaDoor
open Go.RowKit
theorem fits_of {l : List ByteArray} (h1 : l.length * 16 ≤ 140737488351232) (h2 : ∀ s ∈ l, s.size ≤ 140737488351232) : Fits l :=
  ⟨by omega, fun i hi => by
    have := h2 (l.getD i ⟨#[]⟩) (by rw [List.getD_eq_getElem?_getD, List.getElem?_eq_getElem hi]; exact List.getElem_mem hi)
    omega⟩
theorem int_rng {l : List Int} (h : ∀ n ∈ l, (Lit.int .i64 n).wf = true) : ∀ i, i < l.length → -9223372036854775808 ≤ l.getD i 0 ∧ l.getD i 0 ≤ 9223372036854775807 := fun i hi => by
  have := h (l.getD i 0) (by rw [List.getD_eq_getElem?_getD, List.getElem?_eq_getElem hi]; exact List.getElem_mem hi)
  generalize l.getD i 0 = x at *
  simp [Lit.wf, IntKind.min, IntKind.max, IntKind.signed, IntKind.bits] at this
  omega
end Go.Proofs.YtcmnojflllcdfaaDoor
