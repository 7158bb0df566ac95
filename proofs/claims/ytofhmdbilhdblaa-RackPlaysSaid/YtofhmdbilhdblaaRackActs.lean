/- rack: acts that came in as arguments. -/
import Derived.Test.YtofhmdbilhdblaaRackArgs
namespace Go.Proofs.Ytofhmdbilhdblaa
open Go.RowKit Go.ChangeShapes Go.WideShapes Go.Deep
set_option linter.unusedVariables false
set_option linter.unusedSimpArgs false
set_option maxRecDepth 100000

/-- An act, raw. -/
structure Ac9 where
  wh : Int
  sl : Int
  at_ : Int
  n : Int
  v : Value
  l : List (Value × List Int)
instance : Inhabited Ac9 := ⟨⟨0, 0, 0, 0, .slice none 0 0, []⟩⟩
def aE : Enc Ac9 := ⟨5, fun x => [.int .i64 x.wh, .int .i64 x.sl, .int .i64 x.at_, .int .i64 x.n, asS x.v], by omega, fun _ => rfl, fun x u hu => by
  simp only [List.mem_cons, List.not_mem_nil, or_false] at hu
  rcases hu with rfl | rfl | rfl | rfl | rfl
  · rfl
  · rfl
  · rfl
  · rfl
  · exact asS_one _⟩
theorem act_und : Try.prog.underlying 59 = some (.struct (Try.prog.fieldsOf 59)) := by kernel_rfl
theorem act_cells : Try.prog.cellsOf 59 = 5 := by kernel_rfl
theorem act_size : (Try.prog.fieldsOf 59).size = 5 := by kernel_rfl
theorem chs_cells : Try.prog.cellsOf 57 = 1 := by kernel_rfl
theorem act_f4 : ∃ f, (Try.prog.fieldsOf 59)[4]? = some f ∧ f.type = 57 := ⟨_, rfl, rfl⟩
section
variable {H : Type} {enc : TypeId × Value → H} {w : World} {base b0 : Nat} {held : Bool} {r : Reach} {ts : List TypeId} {ds : List (DataW H)}
theorem field_int9 {n : Nat} {q : Value} {y : DataW H × List MemPlace} (h : DataW.trod enc Try.prog w base (fun _ => true) held n 3 [q] = some y) : ∃ a : Int, q = .int .i64 a ∧ In64 a := by
  obtain ⟨a, h1, _, h2⟩ := DataW.trod_int Try.underlying3 h
  exact ⟨a, by simpa using h1, h2⟩
/-- An act in cells. -/
theorem in_act {n : Nat} {cs : List Value} {y : DataW H × List MemPlace} (h : DataW.trod enc Try.prog w base (fun _ => true) held n 59 cs = some y) :
    ∃ (x : Ac9), cs = aE.f x ∧ (In64 x.wh ∧ In64 x.sl ∧ In64 x.at_ ∧ In64 x.n) ∧ ∃ ys d4, y.1 = .agg ys ∧ ys[4]? = some d4 ∧ (LightD Try.prog 57 d4 → ChR w x.v x.l ∧ x.l.length ≤ 140737488355328) := by
  obtain ⟨ys, m, _, hx, hl, hn, hg⟩ := DataW.trod_struct act_und h
  rw [act_cells] at hl
  rw [act_size] at hn
  match cs, hl with
  | [q0, q1, q2, q3, q4], _ =>
  match ys, hn with
  | [y0, y1, y2, y3, y4], _ =>
    have g0 : DataW.trod enc Try.prog w base (fun _ => true) held m 3 (([q0, q1, q2, q3, q4].drop 0).take (Try.prog.cellsOf 3)) = some y0 := hg 0 _ rfl
    have g1 : DataW.trod enc Try.prog w base (fun _ => true) held m 3 (([q0, q1, q2, q3, q4].drop 1).take (Try.prog.cellsOf 3)) = some y1 := hg 1 _ rfl
    have g2 : DataW.trod enc Try.prog w base (fun _ => true) held m 3 (([q0, q1, q2, q3, q4].drop 2).take (Try.prog.cellsOf 3)) = some y2 := hg 2 _ rfl
    have g3 : DataW.trod enc Try.prog w base (fun _ => true) held m 3 (([q0, q1, q2, q3, q4].drop 3).take (Try.prog.cellsOf 3)) = some y3 := hg 3 _ rfl
    have g4 : DataW.trod enc Try.prog w base (fun _ => true) held m 57 (([q0, q1, q2, q3, q4].drop 4).take (Try.prog.cellsOf 57)) = some y4 := hg 4 _ rfl
    rw [int_cells] at g0 g1 g2 g3
    rw [chs_cells] at g4
    obtain ⟨a0, rfl, i0⟩ := field_int9 g0
    obtain ⟨a1, rfl, i1⟩ := field_int9 g1
    obtain ⟨a2, rfl, i2⟩ := field_int9 g2
    obtain ⟨a3, rfl, i3⟩ := field_int9 g3
    have g5 : DataW.trod enc Try.prog w base (fun _ => true) held m 57 [q4] = some y4 := g4
    obtain ⟨l, e5, h5⟩ := chs_pre g5
    refine ⟨⟨a0, a1, a2, a3, q4, l⟩, ?_, ⟨i0, i1, i2, i3⟩, _, y4.1, by rw [hx], rfl, h5⟩
    show [_, _, _, _, q4] = [_, _, _, _, asS q4]
    rw [e5]
/-- Acts that came in. -/
def ActsR (w : World) (v : Value) (l : List Ac9) : Prop := ReadsE aE w v l ∧ (∀ x ∈ l, (In64 x.wh ∧ In64 x.sl ∧ In64 x.at_ ∧ In64 x.n) ∧ ChR w x.v x.l ∧ x.l.length ≤ 140737488355328) ∧ l.length ≤ 140737488355328
theorem open_acts9 {v : Value} {d : DataW H} {p : List MemPlace} (hv : Value.okWide Try.prog w r b0 50 v) (h : DataW.Trod enc Try.prog w base (fun _ => true) held 50 v d p) (hsz : (DataW.weightsEach Try.prog ts ds).all (· ≤ reachBytes) = true) {j : Nat} (ht : ts[j]? = some 50) (hd : ds[j]? = some d) :
    ∃ l : List Ac9, ActsR w v l := by
  obtain ⟨a0, len0, cap0, rfl⟩ := okWide_slice Try.underlying50 hv
  obtain ⟨fuel, hf⟩ := h
  have hw := light_arg hsz ht hd
  obtain ⟨l, v', e, R, _, _, D⟩ := open_structs aE Try.underlying50 act_cells (Good := fun x y => (In64 x.wh ∧ In64 x.sl ∧ In64 x.at_ ∧ In64 x.n) ∧ ∃ ys d4, y = .agg ys ∧ ys[4]? = some d4 ∧ (LightD Try.prog 57 d4 → ChR w x.v x.l ∧ x.l.length ≤ 140737488355328)) (fun n cs y hy => in_act hy) hf
  obtain rfl : v' = .slice a0 len0 cap0 := by simpa [Value.cells] using e.symm
  refine ⟨l, R, fun x hx => ?_, Nat.le_trans (D.len hw Try.underlying50 (of_decide_eq_true (by kernel_rfl))) (by omega)⟩
  obtain ⟨y, ⟨h1, ys, d4, rfl, h2, h3⟩, h4⟩ := D.each hw Try.underlying50 x hx
  obtain ⟨f4, hf4, t4⟩ := act_f4
  exact ⟨h1, h3 (light_field h4 act_und hf4 t4 (i := 4) h2)⟩
end
end Go.Proofs.Ytofhmdbilhdblaa

