/- Numbers that came in as arguments lie in their range. -/
import Derived.Test.YtlbjfigdocbffaaArgs
namespace Go.Proofs.Ytlbjfigdocbffaa
open Go.RowKit
theorem int_rng {l : List Int} (h : ∀ n ∈ l, (Lit.int .i64 n).wf = true) : ∀ i, i < l.length → -9223372036854775808 ≤ l.getD i 0 ∧ l.getD i 0 ≤ 9223372036854775807 := fun i hi => by
  have := h (l.getD i 0) (by rw [List.getD_eq_getElem?_getD, List.getElem?_eq_getElem hi]; exact List.getElem_mem hi)
  generalize l.getD i 0 = x at *
  simp [Lit.wf, IntKind.min, IntKind.max, IntKind.signed, IntKind.bits] at this
  omega
end Go.Proofs.Ytlbjfigdocbffaa
