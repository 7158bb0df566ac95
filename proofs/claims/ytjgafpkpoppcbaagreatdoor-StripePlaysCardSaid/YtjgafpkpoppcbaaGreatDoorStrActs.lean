import Derived.Test.YtjgafpkpoppcbaaGreatDoorLrack
import Derived.Test.YtjgafpkpoppcbaaGreatDoorLbase
import Derived.Test.YtjgafpkpoppcbaaGreatDoorLmat
set_option linter.unusedVariables false
set_option linter.unusedSimpArgs false
namespace Go.Proofs.YtjgafpkpoppcbaaGreatDoor
open Go.RowKit Go.ChangeShapes Go.WideShapes Go.Deep
set_option maxRecDepth 100000
structure Ac13 where
  wh : Int
  sl : Int
  n : Int
  at_ : Int
  vs : Value
  ls : List Int
  vl : Value
  ll : List Int
  vc : Value
  lc : List (Value × List Int)
instance : Inhabited Ac13 := ⟨⟨0, 0, 0, 0, .slice none 0 0, [], .slice none 0 0, [], .slice none 0 0, []⟩⟩
def aE13 : Enc Ac13 := ⟨7, fun x => [.int .i64 x.wh, .int .i64 x.sl, .int .i64 x.n, .int .i64 x.at_, asS x.vs, asS x.vl, asS x.vc], by omega, fun _ => rfl, fun x u hu => by
  simp only [List.mem_cons, List.not_mem_nil, or_false] at hu
  rcases hu with rfl | rfl | rfl | rfl | rfl | rfl | rfl
  · rfl
  · rfl
  · rfl
  · rfl
  · exact asS_one _
  · exact asS_one _
  · exact asS_one _⟩
theorem act13_und : Tryz.prog.underlying 37 = some (.struct (Tryz.prog.fieldsOf 37)) := by kernel_rfl
theorem act13_cells : Tryz.prog.cellsOf 37 = 7 := by kernel_rfl
theorem act13_size : (Tryz.prog.fieldsOf 37).size = 7 := by kernel_rfl
theorem chs_cells : Tryz.prog.cellsOf 35 = 1 := by kernel_rfl
theorem act13_f4 : ∃ f, (Tryz.prog.fieldsOf 37)[4]? = some f ∧ f.type = 26 := ⟨_, rfl, rfl⟩
theorem act13_f5 : ∃ f, (Tryz.prog.fieldsOf 37)[5]? = some f ∧ f.type = 26 := ⟨_, rfl, rfl⟩
theorem act13_f6 : ∃ f, (Tryz.prog.fieldsOf 37)[6]? = some f ∧ f.type = 35 := ⟨_, rfl, rfl⟩
section
variable {H : Type} {enc : TypeId × Value → H} {w : World} {base b0 : Nat} {held : Bool} {r : Reach} {ts : List TypeId} {ds : List (DataW H)}
theorem field_int13 {n : Nat} {q : Value} {y : DataW H × List MemPlace} (h : DataW.trod enc Tryz.prog w base (fun _ => true) held n 3 [q] = some y) : ∃ a : Int, q = .int .i64 a ∧ In64 a := by
  obtain ⟨a, h1, _, h2⟩ := DataW.trod_int Tryz.underlying3 h
  exact ⟨a, by simpa using h1, h2⟩
theorem cap_in {n : Nat} {q : Value} {y : DataW H × List MemPlace} (h : DataW.trod enc Tryz.prog w base (fun _ => true) held n 26 [q] = some y) : capOk q := by
  rcases open_ints Tryz.underlying26 Tryz.underlying3 int_cells h with ⟨hcs, _⟩ | ⟨a, len, cap, ss, hcs, _, hl, _⟩
  · obtain rfl : q = .slice none 0 0 := by simpa using hcs
    exact Nat.le_refl _
  · obtain rfl : q = .slice (some a) len cap := by simpa using hcs
    exact hl
def ActD13 (w : World) (x : Ac13) (d : DataW H) : Prop := capOk x.vs ∧ (In64 x.wh ∧ In64 x.sl ∧ In64 x.n ∧ In64 x.at_) ∧ (Reads w x.vs (x.ls.map (.int .i64)) ∧ ∀ n ∈ x.ls, In64 n) ∧ (Reads w x.vl (x.ll.map (.int .i64)) ∧ ∀ n ∈ x.ll, In64 n) ∧
  ∃ ys d4 d5 d6, d = .agg ys ∧ (ys[4]? = some d4 ∧ IntsD d4 x.ls) ∧ (ys[5]? = some d5 ∧ IntsD d5 x.ll) ∧ ys[6]? = some d6 ∧ (LightD Tryz.prog 35 d6 → ChR w x.vc x.lc ∧ x.lc.length ≤ 140737488355328)
theorem in_act13 {n : Nat} {cs : List Value} {y : DataW H × List MemPlace} (h : DataW.trod enc Tryz.prog w base (fun _ => true) held n 37 cs = some y) :
    ∃ (x : Ac13), cs = aE13.f x ∧ ActD13 w x y.1 := by
  obtain ⟨ys, m, _, hx, hl, hn, hg⟩ := DataW.trod_struct act13_und h
  rw [act13_cells] at hl
  rw [act13_size] at hn
  match cs, hl with
  | [q0, q1, q2, q3, q4, q5, q6], _ =>
  match ys, hn with
  | [y0, y1, y2, y3, y4, y5, y6], _ =>
    have g0 : DataW.trod enc Tryz.prog w base (fun _ => true) held m 3 (([q0, q1, q2, q3, q4, q5, q6].drop 0).take (Tryz.prog.cellsOf 3)) = some y0 := hg 0 _ rfl
    have g1 : DataW.trod enc Tryz.prog w base (fun _ => true) held m 3 (([q0, q1, q2, q3, q4, q5, q6].drop 1).take (Tryz.prog.cellsOf 3)) = some y1 := hg 1 _ rfl
    have g2 : DataW.trod enc Tryz.prog w base (fun _ => true) held m 3 (([q0, q1, q2, q3, q4, q5, q6].drop 2).take (Tryz.prog.cellsOf 3)) = some y2 := hg 2 _ rfl
    have g3 : DataW.trod enc Tryz.prog w base (fun _ => true) held m 3 (([q0, q1, q2, q3, q4, q5, q6].drop 3).take (Tryz.prog.cellsOf 3)) = some y3 := hg 3 _ rfl
    have g4 : DataW.trod enc Tryz.prog w base (fun _ => true) held m 26 (([q0, q1, q2, q3, q4, q5, q6].drop 4).take (Tryz.prog.cellsOf 26)) = some y4 := hg 4 _ rfl
    have g5 : DataW.trod enc Tryz.prog w base (fun _ => true) held m 26 (([q0, q1, q2, q3, q4, q5, q6].drop 5).take (Tryz.prog.cellsOf 26)) = some y5 := hg 5 _ rfl
    have g6 : DataW.trod enc Tryz.prog w base (fun _ => true) held m 35 (([q0, q1, q2, q3, q4, q5, q6].drop 6).take (Tryz.prog.cellsOf 35)) = some y6 := hg 6 _ rfl
    rw [int_cells] at g0 g1 g2 g3
    rw [rows_cells] at g4 g5
    rw [chs_cells] at g6
    obtain ⟨a0, rfl, i0⟩ := field_int13 g0
    obtain ⟨a1, rfl, i1⟩ := field_int13 g1
    obtain ⟨a2, rfl, i2⟩ := field_int13 g2
    obtain ⟨a3, rfl, i3⟩ := field_int13 g3
    obtain ⟨p4, l4, e4, r4, n4, d4⟩ := ints_in g4
    obtain ⟨p5, l5, e5, r5, n5, d5⟩ := ints_in g5
    have e4' : q4 = p4 := by simpa using e4
    have e5' : q5 = p5 := by simpa using e5
    have g4' : DataW.trod enc Tryz.prog w base (fun _ => true) held m 26 [q4] = some y4 := g4
    have k4 := cap_in g4'
    subst e4'
    subst e5'
    have g7 : DataW.trod enc Tryz.prog w base (fun _ => true) held m 35 [q6] = some y6 := g6
    obtain ⟨l6, e6, h6⟩ := chs_pre g7
    refine ⟨⟨a0, a1, a2, a3, q4, l4, q5, l5, q6, l6⟩, ?_, k4, ⟨i0, i1, i2, i3⟩, ⟨r4, n4⟩, ⟨r5, n5⟩, _, y4.1, y5.1, y6.1, by rw [hx], ⟨rfl, d4⟩, ⟨rfl, d5⟩, rfl, h6⟩
    show [_, _, _, _, q4, q5, q6] = [_, _, _, _, asS q4, asS q5, asS q6]
    rw [e6, asS_of r4, asS_of r5]
def Acts13 (w : World) (v : Value) (l : List Ac13) : Prop := ReadsE aE13 w v l ∧ (∀ x ∈ l, (In64 x.wh ∧ In64 x.sl ∧ In64 x.n ∧ In64 x.at_) ∧ (Reads w x.vs (x.ls.map (.int .i64)) ∧ (∀ n ∈ x.ls, In64 n) ∧ x.ls.length ≤ 140737488351232 ∧ capOk x.vs) ∧ (Reads w x.vl (x.ll.map (.int .i64)) ∧ (∀ n ∈ x.ll, In64 n) ∧ x.ll.length ≤ 140737488351232) ∧ ChR w x.vc x.lc ∧ x.lc.length ≤ 140737488355328) ∧ l.length ≤ 140737488355328
theorem open_acts13 {v : Value} {d : DataW H} {p : List MemPlace} (hv : Value.okWide Tryz.prog w r b0 24 v) (h : DataW.Trod enc Tryz.prog w base (fun _ => true) held 24 v d p) (hsz : (DataW.weightsEach Tryz.prog ts ds).all (· ≤ reachBytes) = true) {j : Nat} (ht : ts[j]? = some 24) (hd : ds[j]? = some d) :
    ∃ l : List Ac13, Acts13 w v l := by
  obtain ⟨a0, len0, cap0, rfl⟩ := okWide_slice Tryz.underlying24 hv
  obtain ⟨fuel, hf⟩ := h
  have hw := light_arg hsz ht hd
  obtain ⟨l, v', e, R, _, _, D⟩ := open_structs aE13 Tryz.underlying24 act13_cells (Good := fun x y => ActD13 w x y) (fun n cs y hy => in_act13 hy) hf
  obtain rfl : v' = .slice a0 len0 cap0 := by simpa [Value.cells] using e.symm
  refine ⟨l, R, fun x hx => ?_, Nat.le_trans (D.len hw Tryz.underlying24 (of_decide_eq_true (by kernel_rfl))) (by omega)⟩
  obtain ⟨y, ⟨hcap, h1, h2, h3, ys, d4, d5, d6, rfl, h4, h5, h6, h7⟩, hL⟩ := D.each hw Tryz.underlying24 x hx
  obtain ⟨f4, hf4, t4⟩ := act13_f4
  obtain ⟨f5, hf5, t5⟩ := act13_f5
  obtain ⟨f6, hf6, t6⟩ := act13_f6
  exact ⟨h1, ⟨h2.1, h2.2, intsD_len h4.2 (light_field hL act13_und hf4 t4 (i := 4) h4.1), hcap⟩, ⟨h3.1, h3.2, intsD_len h5.2 (light_field hL act13_und hf5 t5 (i := 5) h5.1)⟩, h7 (light_field hL act13_und hf6 t6 (i := 6) h6)⟩
end
end Go.Proofs.YtjgafpkpoppcbaaGreatDoor
