/- member: acts that came in as arguments. -/
import Derived.Test.YtofhmdbilhdblaaRackArgs
import Derived.Test.YtofhmdbilhdblaaMemTot
namespace Go.Proofs.Ytofhmdbilhdblaa
open Go.RowKit Go.ChangeShapes Go.WideShapes Go.Deep
set_option linter.unusedVariables false
set_option linter.unusedSimpArgs false
set_option maxRecDepth 100000

/-- An act, raw. -/
structure Ac8 where
  wh : Int
  at_ : Int
  n : Int
  v : Value
  l : List Int
instance : Inhabited Ac8 := ⟨⟨0, 0, 0, .slice none 0 0, []⟩⟩
def aE8 : Enc Ac8 := ⟨4, fun x => [.int .i64 x.wh, .int .i64 x.at_, .int .i64 x.n, asS x.v], by omega, fun _ => rfl, fun x u hu => by
  simp only [List.mem_cons, List.not_mem_nil, or_false] at hu
  rcases hu with rfl | rfl | rfl | rfl
  · rfl
  · rfl
  · rfl
  · exact asS_one _⟩
theorem act8_und : Try.prog.underlying 33 = some (.struct (Try.prog.fieldsOf 33)) := by kernel_rfl
theorem act8_cells : Try.prog.cellsOf 33 = 4 := by kernel_rfl
theorem act8_size : (Try.prog.fieldsOf 33).size = 4 := by kernel_rfl
theorem act8_f3 : ∃ f, (Try.prog.fieldsOf 33)[3]? = some f ∧ f.type = 31 := ⟨_, rfl, rfl⟩
section
variable {H : Type} {enc : TypeId × Value → H} {w : World} {base b0 : Nat} {held : Bool} {r : Reach} {ts : List TypeId} {ds : List (DataW H)}
theorem field_int8 {n : Nat} {q : Value} {y : DataW H × List MemPlace} (h : DataW.trod enc Try.prog w base (fun _ => true) held n 3 [q] = some y) : ∃ a : Int, q = .int .i64 a ∧ In64 a := by
  obtain ⟨a, h1, _, h2⟩ := DataW.trod_int Try.underlying3 h
  exact ⟨a, by simpa using h1, h2⟩
/-- An act in cells. -/
theorem in_act8 {n : Nat} {cs : List Value} {y : DataW H × List MemPlace} (h : DataW.trod enc Try.prog w base (fun _ => true) held n 33 cs = some y) :
    ∃ (x : Ac8), cs = aE8.f x ∧ ((In64 x.wh ∧ In64 x.at_ ∧ In64 x.n) ∧ Reads w x.v (x.l.map (.int .i64)) ∧ ∀ n ∈ x.l, In64 n) ∧ ∃ ys d3, y.1 = .agg ys ∧ ys[3]? = some d3 ∧ IntsD d3 x.l := by
  obtain ⟨ys, m, _, hx, hl, hn, hg⟩ := DataW.trod_struct act8_und h
  rw [act8_cells] at hl
  rw [act8_size] at hn
  match cs, hl with
  | [q0, q1, q2, q3], _ =>
  match ys, hn with
  | [y0, y1, y2, y3], _ =>
    have g0 : DataW.trod enc Try.prog w base (fun _ => true) held m 3 (([q0, q1, q2, q3].drop 0).take (Try.prog.cellsOf 3)) = some y0 := hg 0 _ rfl
    have g1 : DataW.trod enc Try.prog w base (fun _ => true) held m 3 (([q0, q1, q2, q3].drop 1).take (Try.prog.cellsOf 3)) = some y1 := hg 1 _ rfl
    have g2 : DataW.trod enc Try.prog w base (fun _ => true) held m 3 (([q0, q1, q2, q3].drop 2).take (Try.prog.cellsOf 3)) = some y2 := hg 2 _ rfl
    have g3 : DataW.trod enc Try.prog w base (fun _ => true) held m 31 (([q0, q1, q2, q3].drop 3).take (Try.prog.cellsOf 31)) = some y3 := hg 3 _ rfl
    rw [int_cells] at g0 g1 g2
    rw [rows_cells] at g3
    obtain ⟨a0, rfl, i0⟩ := field_int8 g0
    obtain ⟨a1, rfl, i1⟩ := field_int8 g1
    obtain ⟨a2, rfl, i2⟩ := field_int8 g2
    have g5 : DataW.trod enc Try.prog w base (fun _ => true) held m 31 [q3] = some y3 := g3
    obtain ⟨q, l, e5, h5, h6, h7⟩ := ints_in g5
    obtain rfl : q3 = q := by simpa using e5
    refine ⟨⟨a0, a1, a2, q3, l⟩, ?_, ⟨⟨i0, i1, i2⟩, h5, h6⟩, _, y3.1, by rw [hx], rfl, h7⟩
    show [_, _, _, q3] = [_, _, _, asS q3]
    rw [asS_of h5]
/-- Acts that came in. -/
def ActsR8 (w : World) (v : Value) (l : List Ac8) : Prop := ReadsE aE8 w v l ∧ (∀ x ∈ l, (In64 x.wh ∧ In64 x.at_ ∧ In64 x.n) ∧ Reads w x.v (x.l.map (.int .i64)) ∧ (∀ n ∈ x.l, In64 n) ∧ x.l.length ≤ 140737488355328) ∧ l.length ≤ 140737488355328
theorem open_acts8 {v : Value} {d : DataW H} {p : List MemPlace} (hv : Value.okWide Try.prog w r b0 22 v) (h : DataW.Trod enc Try.prog w base (fun _ => true) held 22 v d p) (hsz : (DataW.weightsEach Try.prog ts ds).all (· ≤ reachBytes) = true) {j : Nat} (ht : ts[j]? = some 22) (hd : ds[j]? = some d) :
    ∃ l : List Ac8, ActsR8 w v l := by
  obtain ⟨a0, len0, cap0, rfl⟩ := okWide_slice Try.underlying22 hv
  obtain ⟨fuel, hf⟩ := h
  have hw := light_arg hsz ht hd
  obtain ⟨l, v', e, R, _, _, D⟩ := open_structs aE8 Try.underlying22 act8_cells (Good := fun x y => ((In64 x.wh ∧ In64 x.at_ ∧ In64 x.n) ∧ Reads w x.v (x.l.map (.int .i64)) ∧ ∀ n ∈ x.l, In64 n) ∧ ∃ ys d3, y = .agg ys ∧ ys[3]? = some d3 ∧ IntsD d3 x.l) (fun n cs y hy => in_act8 hy) hf
  obtain rfl : v' = .slice a0 len0 cap0 := by simpa [Value.cells] using e.symm
  refine ⟨l, R, fun x hx => ?_, Nat.le_trans (D.len hw Try.underlying22 (of_decide_eq_true (by kernel_rfl))) (by omega)⟩
  obtain ⟨y, ⟨⟨h1, h1b, h1c⟩, ys, d3, rfl, h2, h3⟩, h4⟩ := D.each hw Try.underlying22 x hx
  obtain ⟨f3, hf3, t3⟩ := act8_f3
  exact ⟨h1, h1b, h1c, Nat.le_trans (intsD_len h3 (light_field h4 act8_und hf3 t3 (i := 3) h2)) (by omega)⟩
end
end Go.Proofs.Ytofhmdbilhdblaa
