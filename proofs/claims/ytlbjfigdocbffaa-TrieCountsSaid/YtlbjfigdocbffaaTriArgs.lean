/- trie: scripts that came in as arguments. -/
import Derived.Test.YtlbjfigdocbffaaTriBk
import Derived.Test.YtlbjfigdocbffaaStArgs
namespace Go.Proofs.Ytlbjfigdocbffaa
open Go.RowKit Go.ChangeShapes Go.WideShapes Go.Deep
set_option linter.unusedVariables false
set_option linter.unusedSimpArgs false
set_option maxRecDepth 100000

instance : Inhabited OpR := ⟨⟨0, 0, 0, 0⟩⟩
theorem op_und : Try.prog.underlying 62 = some (.struct (Try.prog.fieldsOf 62)) := by kernel_rfl
theorem op_cells : Try.prog.cellsOf 62 = 4 := by kernel_rfl
theorem op_size : (Try.prog.fieldsOf 62).size = 4 := by kernel_rfl
theorem opi_cells : Try.prog.cellsOf 3 = 1 := by kernel_rfl
section
variable {H : Type} {enc : TypeId × Value → H} {w : World} {base b0 : Nat} {held : Bool} {r : Reach}
theorem field_int17 {n : Nat} {q : Value} {y : DataW H × List MemPlace} (h : DataW.trod enc Try.prog w base (fun _ => true) held n 3 [q] = some y) : ∃ a : Int, q = .int .i64 a ∧ (-9223372036854775808 ≤ a ∧ a ≤ 9223372036854775807) := by
  obtain ⟨a, h1, _, h2⟩ := DataW.trod_int Try.underlying3 h
  refine ⟨a, by simpa using h1, ?_⟩
  simp [Lit.wf, IntKind.min, IntKind.max, IntKind.signed, IntKind.bits] at h2
  omega
/-- An op in cells. -/
theorem in_op {n : Nat} {cs : List Value} {y : DataW H × List MemPlace} (h : DataW.trod enc Try.prog w base (fun _ => true) held n 62 cs = some y) :
    ∃ (x : OpR), cs = opE.f x ∧ OpOk x := by
  obtain ⟨ys, m, _, hx, hl, hn, hg⟩ := DataW.trod_struct op_und h
  rw [op_cells] at hl
  rw [op_size] at hn
  match cs, hl with
  | [q0, q1, q2, q3], _ =>
  match ys, hn with
  | [y0, y1, y2, y3], _ =>
    have g0 : DataW.trod enc Try.prog w base (fun _ => true) held m 3 (([q0, q1, q2, q3].drop 0).take (Try.prog.cellsOf 3)) = some y0 := hg 0 _ rfl
    have g1 : DataW.trod enc Try.prog w base (fun _ => true) held m 3 (([q0, q1, q2, q3].drop 1).take (Try.prog.cellsOf 3)) = some y1 := hg 1 _ rfl
    have g2 : DataW.trod enc Try.prog w base (fun _ => true) held m 3 (([q0, q1, q2, q3].drop 2).take (Try.prog.cellsOf 3)) = some y2 := hg 2 _ rfl
    have g3 : DataW.trod enc Try.prog w base (fun _ => true) held m 3 (([q0, q1, q2, q3].drop 3).take (Try.prog.cellsOf 3)) = some y3 := hg 3 _ rfl
    rw [opi_cells] at g0 g1 g2 g3
    obtain ⟨a0, rfl, i0⟩ := field_int17 g0
    obtain ⟨a1, rfl, i1⟩ := field_int17 g1
    obtain ⟨a2, rfl, i2⟩ := field_int17 g2
    obtain ⟨a3, rfl, i3⟩ := field_int17 g3
    exact ⟨⟨a0, a1, a2, a3⟩, rfl, i0, i1, i2, i3⟩
theorem open_ops {v : Value} {d : DataW H} {p : List MemPlace} (hv : Value.okWide Try.prog w r b0 22 v) (h : DataW.Trod enc Try.prog w base (fun _ => true) held 22 v d p) :
    ∃ l : List OpR, ReadsE opE w v l ∧ ∀ x ∈ l, OpOk x := by
  obtain ⟨a0, len0, cap0, rfl⟩ := okWide_slice Try.underlying22 hv
  obtain ⟨fuel, hf⟩ := h
  obtain ⟨l, v', e, R, _, E, _⟩ := open_structs opE Try.underlying22 op_cells (Good := fun x y => OpOk x) (fun n cs y hy => in_op hy) hf
  obtain rfl : v' = .slice a0 len0 cap0 := by simpa [Value.cells] using e.symm
  exact ⟨l, R, fun x hx => by obtain ⟨_, h⟩ := E x hx; exact h⟩
end
end Go.Proofs.Ytlbjfigdocbffaa
