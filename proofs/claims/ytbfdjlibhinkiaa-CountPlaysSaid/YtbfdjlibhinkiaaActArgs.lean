/- Scripts that came in as arguments. -/
import Derived.Test.YtbfdjlibhinkiaaCntLaw2
import Derived.Test.YtbfdjlibhinkiaaSliceArgs
namespace Go.Proofs.Ytbfdjlibhinkiaa
open Go.RowKit Go.ChangeShapes Go.WideShapes Go.Deep
set_option linter.unusedVariables false
set_option linter.unusedSimpArgs false
instance : Inhabited ActV := ⟨⟨0, 0, false⟩⟩
section
variable {H : Type} {enc : TypeId × Value → H} {w : World} {base b0 : Nat} {held : Bool} {r : Reach}
theorem act_flat : flatF Try.prog (Try.prog.fieldsOf 32) = true := by kernel_rfl
theorem act_cells : Try.prog.cellsOf 32 = (Try.prog.fieldsOf 32).size := by kernel_rfl
theorem act_und : Try.prog.underlying 32 = some (.struct (Try.prog.fieldsOf 32)) := by kernel_rfl
theorem act_size : (Try.prog.fieldsOf 32).size = 3 := by kernel_rfl
theorem open_acts {v : Value} {d : DataW H} {p : List MemPlace} (hv : Value.okWide Try.prog w r b0 22 v) (h : DataW.Trod enc Try.prog w base (fun _ => true) held 22 v d p) :
    ∃ (a : Option Addr) (cap : Nat) (l : List ActV) (D : Nat → DataW H), v = .slice a l.length cap ∧ Acts w a l ∧ (d = .nil ∧ l.length = 0 ∨ ∃ spare, d = .slice ((List.range l.length).map D) spare) := by
  obtain ⟨a, len, cap, D, rfl, hd, hg⟩ := open_structs Try.underlying22 act_und act_flat act_cells hv h
  have each : ∀ i, i < len → ∃ x : ActV, (∃ cb co, a = some ⟨cb, co, none⟩ ∧ cb < w.heap.size ∧ w.cell? ⟨cb, co + i * 3, none⟩ = some (.int .i64 x.what) ∧ w.cell? ⟨cb, co + i * 3 + 1, none⟩ = some (.int .i64 x.b) ∧ w.cell? ⟨cb, co + i * 3 + 2, none⟩ = some (.bool x.near)) ∧ In64 x.what ∧ In64 x.b := by
    intro i hi
    obtain ⟨b, off, ys, n, ha, hb, _, hf⟩ := hg i hi
    obtain ⟨c0, y0, e0, _, t0⟩ := hf 0 _ rfl
    obtain ⟨c1, y1, e1, _, t1⟩ := hf 1 _ rfl
    obtain ⟨c2, y2, e2, _, t2⟩ := hf 2 _ rfl
    obtain ⟨a0, rfl, _, r0⟩ := field_int Try.underlying3 t0
    obtain ⟨a1, rfl, _, r1⟩ := field_int Try.underlying3 t1
    obtain ⟨a2, rfl⟩ := field_bool Try.underlying4 t2
    rw [act_size] at e0 e1 e2
    exact ⟨⟨a0, a1, a2⟩, ⟨b, off, ha, hb, e0, e1, e2⟩, r0, r1⟩
  obtain ⟨f, hf⟩ := Go.Deep.choose_lt each
  refine ⟨a, cap, (List.range len).map f, D, by simp, ⟨fun i hi => ?_, fun i hi => ?_⟩, by simpa using hd⟩
  · simp at hi
    simpa using (hf i hi).1
  · simp at hi
    simpa using (hf i hi).2
end
end Go.Proofs.Ytbfdjlibhinkiaa
