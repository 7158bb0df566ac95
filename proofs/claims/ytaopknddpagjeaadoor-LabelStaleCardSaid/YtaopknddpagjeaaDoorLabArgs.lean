/- label: labels, and raw ones, that came in as arguments. -/
import Derived.Test.YtaopknddpagjeaaDoorLabWalk2
import Derived.Test.YtaopknddpagjeaaDoorAggArgs
import Derived.Test.YtaopknddpagjeaaDoorArgs
import Derived.Deep.Slices
namespace Go.Proofs.YtaopknddpagjeaaDoor
open Go.RowKit Go.ChangeShapes Go.WideShapes Go.Deep
set_option linter.unusedVariables false
set_option linter.unusedSimpArgs false

def I64 (a : Int) : Prop := -9223372036854775808 ≤ a ∧ a ≤ 9223372036854775807
theorem wf_rng {n : Int} (h : (Lit.int .i64 n).wf = true) : I64 n := by
  simp [Lit.wf, IntKind.min, IntKind.max, IntKind.signed, IntKind.bits] at h; exact ⟨by omega, by omega⟩
/-- Its numbers fit. -/
structure NumsOk (x : Lbl) : Prop where
  i : I64 x.i
  s : I64 x.s
  g : I64 x.g
  k : I64 x.k
  m : I64 x.m
  b : I64 x.b
  st : ∀ n ∈ x.st, I64 n
  bo : ∀ n ∈ x.bo, I64 n
  cu : ∀ n ∈ x.cu, I64 n
def NumsD {H : Type} (d : DataW H) (l : List Int) : Prop := d = .nil ∧ l = [] ∨ ∃ spare, d = .slice (l.map fun n => .lit (.int .i64 n)) spare
section
variable {H : Type} {P : Program} {ts : List TypeId} {ds : List (DataW H)}
theorem weights_nth {n : Nat} {t : TypeId} {d : DataW H} : ∀ {fs : List TypeId} {ys : List (DataW H)} {i : Nat}, fs[i]? = some t → ys[i]? = some d → n ∈ d.weights P t → n ∈ DataW.weightsEach P fs ys := by
  intro fs
  induction fs with
  | nil => intro ys i h; simp at h
  | cons f fs ih =>
    intro ys i h1 h2 h3
    cases ys with
    | nil => simp at h2
    | cons y ys =>
      simp only [DataW.weightsEach, List.mem_append]
      cases i with
      | zero => simp at h1 h2; subst h1 h2; exact .inl h3
      | succ i => exact .inr (ih (by simpa using h1) (by simpa using h2) h3)
theorem nums_small (h : (DataW.weightsEach P ts ds).all (· ≤ reachBytes) = true) {j i : Nat} {t e u : TypeId} {fs : Array Field} {f : Field} {ys : List (DataW H)} {d : DataW H} {l : List Int} (ht : ts[j]? = some t) (hd : ds[j]? = some (.agg ys)) (hu : P.underlying t = some (.struct fs))
    (hf : fs[i]? = some f) (hft : f.type = u) (hy : ys[i]? = some d) (hs : P.underlying u = some (.slice e)) (hb : P.bytesOf e = 8) (hl : NumsD d l) : l.length ≤ 140737488351232 := by
  rcases hl with ⟨_, rfl⟩ | ⟨spare, rfl⟩
  · simp
  · have := List.all_eq_true.1 h _ (DataW.weights_mem_each ht hd ((l.length + spare.length) * 8) (by
      simp only [DataW.weights, hu]
      refine weights_nth (i := i) (t := u) (by simp [hf, hft]) hy ?_
      simp [DataW.weights, hs, hb]))
    have h2 : (l.length + spare.length) * 8 ≤ reachBytes := of_decide_eq_true this
    simp [reachBytes] at h2
    omega
end
theorem geo_flat : flatF Tryd.prog (Tryd.prog.fieldsOf 23) = true := by kernel_rfl
theorem geo_cells : Tryd.prog.cellsOf 23 = (Tryd.prog.fieldsOf 23).size := by kernel_rfl
theorem geo_und : Tryd.prog.underlying 23 = some (.struct (Tryd.prog.fieldsOf 23)) := by kernel_rfl
theorem geo_three : Tryd.prog.cellsOf 23 = 3 := by kernel_rfl
theorem int_one : Tryd.prog.cellsOf 3 = 1 := by kernel_rfl
theorem ints_one : Tryd.prog.cellsOf 24 = 1 := by kernel_rfl
theorem int_eight : Tryd.prog.bytesOf 3 = 8 := by kernel_rfl
section
variable {H : Type} {enc : TypeId × Value → H} {w : World} {base b0 : Nat} {held : Bool} {r : Reach}
set_option maxRecDepth 100000 in
theorem geo_parts {n : Nat} {q3 q4 q5 : Value} {y : DataW H × List MemPlace} (h : DataW.trod enc Tryd.prog w base (fun _ => true) held n 23 [q3, q4, q5] = some y) :
    ∃ a b c : Int, q3 = .int .i64 a ∧ q4 = .int .i64 b ∧ q5 = .int .i64 c ∧ I64 a ∧ I64 b ∧ I64 c := by
  obtain ⟨ys, n', _, _, hl, hg⟩ := trod_fields geo_und geo_flat geo_cells h
  obtain ⟨c0, y0, e0, k0, t0⟩ := hg 0 _ rfl
  obtain ⟨c1, y1, e1, k1, t1⟩ := hg 1 _ rfl
  obtain ⟨c2, y2, e2, k2, t2⟩ := hg 2 _ rfl
  obtain ⟨a, rfl, _, ra⟩ := field_int Tryd.underlying3 t0
  obtain ⟨b, rfl, _, rb⟩ := field_int Tryd.underlying3 t1
  obtain ⟨c, rfl, _, rc⟩ := field_int Tryd.underlying3 t2
  exact ⟨a, b, c, by simpa using e0, by simpa using e1, by simpa using e2, ra, rb, rc⟩
set_option maxRecDepth 100000 in
/-- A list of numbers in a cell. -/
theorem nums_cell {n : Nat} {q : Value} {y : DataW H × List MemPlace} (hq : Value.okWide Tryd.prog w r b0 24 q) (h : DataW.trod enc Tryd.prog w base (fun _ => true) held n 24 [q] = some y) :
    ∃ l : List Int, Reads w q (l.map (.int .i64)) ∧ (∀ n ∈ l, I64 n) ∧ NumsD y.1 l := by
  obtain ⟨a0, len0, cap0, rfl⟩ := okWide_slice Tryd.underlying24 hq
  obtain ⟨l, h1, _, h3, h4⟩ := open_nums (d := y.1) (p := y.2) Tryd.underlying24 Tryd.underlying3 int_one hq ⟨n, h⟩
  exact ⟨l, h1, fun m hm => wf_rng (h3 m hm), h4⟩
theorem lbl_und : Tryd.prog.underlying 26 = some (.struct (Tryd.prog.fieldsOf 26)) := by kernel_rfl
theorem lbl_cells : Tryd.prog.cellsOf 26 = 9 := by kernel_rfl
theorem lbl_size : (Tryd.prog.fieldsOf 26).size = 7 := by kernel_rfl
theorem lbl_types : Tryd.prog.cellTypes Tryd.prog.depth 26 = some [3, 3, 3, 3, 3, 3, 24, 24, 24] := by kernel_rfl
set_option maxRecDepth 100000 in
theorem parts_lbl {fuel : Nat} {cs : List Value} {d : DataW H × List MemPlace} (hrow : Row.okWide Tryd.prog w r b0 26 cs.toArray) (h : DataW.trod enc Tryd.prog w base (fun _ => true) held fuel 26 cs = some d) :
    ∃ (x : Lbl) (va vb vc : Value) (d6 d7 d8 : DataW H) (ys : List (DataW H)), cs = [.int .i64 x.i, .int .i64 x.s, .int .i64 x.g, .int .i64 x.k, .int .i64 x.m, .int .i64 x.b, va, vb, vc] ∧ Reads w va (x.st.map (.int .i64)) ∧ Reads w vb (x.bo.map (.int .i64)) ∧ Reads w vc (x.cu.map (.int .i64)) ∧ NumsOk x ∧
      d.1 = .agg ys ∧ ys[4]? = some d6 ∧ ys[5]? = some d7 ∧ ys[6]? = some d8 ∧ NumsD d6 x.st ∧ NumsD d7 x.bo ∧ NumsD d8 x.cu := by
  obtain ⟨ys, n, _, hx, hl, hn, hg⟩ := DataW.trod_struct lbl_und h
  rw [lbl_cells] at hl
  rw [lbl_size] at hn
  match cs, hl with
  | [q0, q1, q2, q3, q4, q5, q6, q7, q8], _ =>
  match ys, hn with
  | [y0, y1, y2, y3, y4, y5, y6], _ =>
    have g0 : DataW.trod enc Tryd.prog w base (fun _ => true) held n 3 (([q0, q1, q2, q3, q4, q5, q6, q7, q8].drop 0).take (Tryd.prog.cellsOf 3)) = some y0 := hg 0 _ rfl
    have g1 : DataW.trod enc Tryd.prog w base (fun _ => true) held n 3 (([q0, q1, q2, q3, q4, q5, q6, q7, q8].drop 1).take (Tryd.prog.cellsOf 3)) = some y1 := hg 1 _ rfl
    have g2 : DataW.trod enc Tryd.prog w base (fun _ => true) held n 3 (([q0, q1, q2, q3, q4, q5, q6, q7, q8].drop 2).take (Tryd.prog.cellsOf 3)) = some y2 := hg 2 _ rfl
    have g3 : DataW.trod enc Tryd.prog w base (fun _ => true) held n 23 (([q0, q1, q2, q3, q4, q5, q6, q7, q8].drop 3).take (Tryd.prog.cellsOf 23)) = some y3 := hg 3 _ rfl
    have g4 : DataW.trod enc Tryd.prog w base (fun _ => true) held n 24 (([q0, q1, q2, q3, q4, q5, q6, q7, q8].drop 6).take (Tryd.prog.cellsOf 24)) = some y4 := hg 4 _ rfl
    have g5 : DataW.trod enc Tryd.prog w base (fun _ => true) held n 24 (([q0, q1, q2, q3, q4, q5, q6, q7, q8].drop 7).take (Tryd.prog.cellsOf 24)) = some y5 := hg 5 _ rfl
    have g6 : DataW.trod enc Tryd.prog w base (fun _ => true) held n 24 (([q0, q1, q2, q3, q4, q5, q6, q7, q8].drop 8).take (Tryd.prog.cellsOf 24)) = some y6 := hg 6 _ rfl
    rw [int_one] at g0 g1 g2
    rw [geo_three] at g3
    rw [ints_one] at g4 g5 g6
    obtain ⟨ct, hct, _, hcell⟩ := hrow
    rw [lbl_types] at hct
    obtain rfl := Option.some.inj hct
    have hs : ∀ i q, [q0, q1, q2, q3, q4, q5, q6, q7, q8].toArray[i]? = some q → 6 ≤ i → i < 9 → Value.okWide Tryd.prog w r b0 24 q := fun i q hq h6 h9 => by
      obtain ⟨u, hu, hc⟩ := hcell i q hq
      have : u = 24 := by
        rcases (by omega : i = 6 ∨ i = 7 ∨ i = 8) with rfl | rfl | rfl <;> simpa using hu.symm
      subst this
      unfold Value.okWide
      rw [Tryd.underlying24]
      exact hc
    obtain ⟨a0, rfl, _, r0⟩ := field_int Tryd.underlying3 g0
    obtain ⟨a1, rfl, _, r1⟩ := field_int Tryd.underlying3 g1
    obtain ⟨a2, rfl, _, r2⟩ := field_int Tryd.underlying3 g2
    obtain ⟨a3, a4, a5, rfl, rfl, rfl, r3, r4, r5⟩ := geo_parts g3
    obtain ⟨l4, R4, I4, D4⟩ := nums_cell (hs 6 q6 rfl (by decide) (by decide)) g4
    obtain ⟨l5, R5, I5, D5⟩ := nums_cell (hs 7 q7 rfl (by decide) (by decide)) g5
    obtain ⟨l6, R6, I6, D6⟩ := nums_cell (hs 8 q8 rfl (by decide) (by decide)) g6
    exact ⟨⟨a0, a1, a2, a3, a4, a5, l4, l5, l6⟩, q6, q7, q8, y4.1, y5.1, y6.1, _, rfl, R4, R5, R6, ⟨r0, r1, r2, r3, r4, r5, I4, I5, I6⟩, by rw [hx], rfl, rfl, rfl, D4, D5, D6⟩
set_option maxRecDepth 100000 in
theorem open_lbl {v : Value} {d : DataW H} {p : List MemPlace} (hv : Value.okWide Tryd.prog w r b0 26 v) (h : DataW.Trod enc Tryd.prog w base (fun _ => true) held 26 v d p) :
    ∃ (x : Lbl) (va vb vc : Value) (d6 d7 d8 : DataW H) (ys : List (DataW H)), v = x.v va vb vc ∧ Reads w va (x.st.map (.int .i64)) ∧ Reads w vb (x.bo.map (.int .i64)) ∧ Reads w vc (x.cu.map (.int .i64)) ∧ NumsOk x ∧
      d = .agg ys ∧ ys[4]? = some d6 ∧ ys[5]? = some d7 ∧ ys[6]? = some d8 ∧ NumsD d6 x.st ∧ NumsD d7 x.bo ∧ NumsD d8 x.cu := by
  unfold Value.okWide at hv
  rw [lbl_und] at hv
  obtain ⟨cs, rfl, hsz, hrow⟩ := hv
  obtain ⟨fuel, hf⟩ := h
  obtain ⟨x, va, vb, vc, d6, d7, d8, ys, e1, r1⟩ := parts_lbl (cs := cs.toList) (by simpa using hrow) hf
  refine ⟨x, va, vb, vc, d6, d7, d8, ys, ?_, r1⟩
  exact congrArg Value.agg (Array.ext' e1)
set_option maxRecDepth 100000 in
theorem lens_lbl {ts : List TypeId} {ds : List (DataW H)} (h : (DataW.weightsEach Tryd.prog ts ds).all (· ≤ reachBytes) = true) {j : Nat} {x : Lbl} {d6 d7 d8 : DataW H} {ys : List (DataW H)} (ht : ts[j]? = some 26) (hd : ds[j]? = some (.agg ys)) (h6 : ys[4]? = some d6) (h7 : ys[5]? = some d7) (h8 : ys[6]? = some d8)
    (k6 : NumsD d6 x.st) (k7 : NumsD d7 x.bo) (k8 : NumsD d8 x.cu) : x.st.length ≤ 140737488351232 ∧ x.bo.length ≤ 140737488351232 ∧ x.cu.length ≤ 140737488351232 :=
  ⟨nums_small h ht hd lbl_und (i := 4) rfl rfl h6 Tryd.underlying24 int_eight k6, nums_small h ht hd lbl_und (i := 5) rfl rfl h7 Tryd.underlying24 int_eight k7, nums_small h ht hd lbl_und (i := 6) rfl rfl h8 Tryd.underlying24 int_eight k8⟩
theorem raw_und : Tryd.prog.underlying 36 = some (.struct (Tryd.prog.fieldsOf 36)) := by kernel_rfl
theorem raw_cells : Tryd.prog.cellsOf 36 = 9 := by kernel_rfl
theorem raw_size : (Tryd.prog.fieldsOf 36).size = 7 := by kernel_rfl
theorem raw_types : Tryd.prog.cellTypes Tryd.prog.depth 36 = some [3, 3, 3, 3, 3, 3, 24, 24, 24] := by kernel_rfl
set_option maxRecDepth 100000 in
theorem parts_raw {fuel : Nat} {cs : List Value} {d : DataW H × List MemPlace} (hrow : Row.okWide Tryd.prog w r b0 36 cs.toArray) (h : DataW.trod enc Tryd.prog w base (fun _ => true) held fuel 36 cs = some d) :
    ∃ (x : Lbl) (va vb vc : Value) (d6 d7 d8 : DataW H) (ys : List (DataW H)), cs = [.int .i64 x.i, .int .i64 x.s, .int .i64 x.g, .int .i64 x.k, .int .i64 x.m, .int .i64 x.b, va, vb, vc] ∧ Reads w va (x.st.map (.int .i64)) ∧ Reads w vb (x.bo.map (.int .i64)) ∧ Reads w vc (x.cu.map (.int .i64)) ∧ NumsOk x ∧
      d.1 = .agg ys ∧ ys[4]? = some d6 ∧ ys[5]? = some d7 ∧ ys[6]? = some d8 ∧ NumsD d6 x.st ∧ NumsD d7 x.bo ∧ NumsD d8 x.cu := by
  obtain ⟨ys, n, _, hx, hl, hn, hg⟩ := DataW.trod_struct raw_und h
  rw [raw_cells] at hl
  rw [raw_size] at hn
  match cs, hl with
  | [q0, q1, q2, q3, q4, q5, q6, q7, q8], _ =>
  match ys, hn with
  | [y0, y1, y2, y3, y4, y5, y6], _ =>
    have g0 : DataW.trod enc Tryd.prog w base (fun _ => true) held n 3 (([q0, q1, q2, q3, q4, q5, q6, q7, q8].drop 0).take (Tryd.prog.cellsOf 3)) = some y0 := hg 0 _ rfl
    have g1 : DataW.trod enc Tryd.prog w base (fun _ => true) held n 3 (([q0, q1, q2, q3, q4, q5, q6, q7, q8].drop 1).take (Tryd.prog.cellsOf 3)) = some y1 := hg 1 _ rfl
    have g2 : DataW.trod enc Tryd.prog w base (fun _ => true) held n 3 (([q0, q1, q2, q3, q4, q5, q6, q7, q8].drop 2).take (Tryd.prog.cellsOf 3)) = some y2 := hg 2 _ rfl
    have g3 : DataW.trod enc Tryd.prog w base (fun _ => true) held n 23 (([q0, q1, q2, q3, q4, q5, q6, q7, q8].drop 3).take (Tryd.prog.cellsOf 23)) = some y3 := hg 3 _ rfl
    have g4 : DataW.trod enc Tryd.prog w base (fun _ => true) held n 24 (([q0, q1, q2, q3, q4, q5, q6, q7, q8].drop 6).take (Tryd.prog.cellsOf 24)) = some y4 := hg 4 _ rfl
    have g5 : DataW.trod enc Tryd.prog w base (fun _ => true) held n 24 (([q0, q1, q2, q3, q4, q5, q6, q7, q8].drop 7).take (Tryd.prog.cellsOf 24)) = some y5 := hg 5 _ rfl
    have g6 : DataW.trod enc Tryd.prog w base (fun _ => true) held n 24 (([q0, q1, q2, q3, q4, q5, q6, q7, q8].drop 8).take (Tryd.prog.cellsOf 24)) = some y6 := hg 6 _ rfl
    rw [int_one] at g0 g1 g2
    rw [geo_three] at g3
    rw [ints_one] at g4 g5 g6
    obtain ⟨ct, hct, _, hcell⟩ := hrow
    rw [raw_types] at hct
    obtain rfl := Option.some.inj hct
    have hs : ∀ i q, [q0, q1, q2, q3, q4, q5, q6, q7, q8].toArray[i]? = some q → 6 ≤ i → i < 9 → Value.okWide Tryd.prog w r b0 24 q := fun i q hq h6 h9 => by
      obtain ⟨u, hu, hc⟩ := hcell i q hq
      have : u = 24 := by
        rcases (by omega : i = 6 ∨ i = 7 ∨ i = 8) with rfl | rfl | rfl <;> simpa using hu.symm
      subst this
      unfold Value.okWide
      rw [Tryd.underlying24]
      exact hc
    obtain ⟨a0, rfl, _, r0⟩ := field_int Tryd.underlying3 g0
    obtain ⟨a1, rfl, _, r1⟩ := field_int Tryd.underlying3 g1
    obtain ⟨a2, rfl, _, r2⟩ := field_int Tryd.underlying3 g2
    obtain ⟨a3, a4, a5, rfl, rfl, rfl, r3, r4, r5⟩ := geo_parts g3
    obtain ⟨l4, R4, I4, D4⟩ := nums_cell (hs 6 q6 rfl (by decide) (by decide)) g4
    obtain ⟨l5, R5, I5, D5⟩ := nums_cell (hs 7 q7 rfl (by decide) (by decide)) g5
    obtain ⟨l6, R6, I6, D6⟩ := nums_cell (hs 8 q8 rfl (by decide) (by decide)) g6
    exact ⟨⟨a0, a1, a2, a3, a4, a5, l4, l5, l6⟩, q6, q7, q8, y4.1, y5.1, y6.1, _, rfl, R4, R5, R6, ⟨r0, r1, r2, r3, r4, r5, I4, I5, I6⟩, by rw [hx], rfl, rfl, rfl, D4, D5, D6⟩
set_option maxRecDepth 100000 in
theorem open_raw {v : Value} {d : DataW H} {p : List MemPlace} (hv : Value.okWide Tryd.prog w r b0 36 v) (h : DataW.Trod enc Tryd.prog w base (fun _ => true) held 36 v d p) :
    ∃ (x : Lbl) (va vb vc : Value) (d6 d7 d8 : DataW H) (ys : List (DataW H)), v = x.v va vb vc ∧ Reads w va (x.st.map (.int .i64)) ∧ Reads w vb (x.bo.map (.int .i64)) ∧ Reads w vc (x.cu.map (.int .i64)) ∧ NumsOk x ∧
      d = .agg ys ∧ ys[4]? = some d6 ∧ ys[5]? = some d7 ∧ ys[6]? = some d8 ∧ NumsD d6 x.st ∧ NumsD d7 x.bo ∧ NumsD d8 x.cu := by
  unfold Value.okWide at hv
  rw [raw_und] at hv
  obtain ⟨cs, rfl, hsz, hrow⟩ := hv
  obtain ⟨fuel, hf⟩ := h
  obtain ⟨x, va, vb, vc, d6, d7, d8, ys, e1, r1⟩ := parts_raw (cs := cs.toList) (by simpa using hrow) hf
  refine ⟨x, va, vb, vc, d6, d7, d8, ys, ?_, r1⟩
  exact congrArg Value.agg (Array.ext' e1)
set_option maxRecDepth 100000 in
theorem lens_raw {ts : List TypeId} {ds : List (DataW H)} (h : (DataW.weightsEach Tryd.prog ts ds).all (· ≤ reachBytes) = true) {j : Nat} {x : Lbl} {d6 d7 d8 : DataW H} {ys : List (DataW H)} (ht : ts[j]? = some 36) (hd : ds[j]? = some (.agg ys)) (h6 : ys[4]? = some d6) (h7 : ys[5]? = some d7) (h8 : ys[6]? = some d8)
    (k6 : NumsD d6 x.st) (k7 : NumsD d7 x.bo) (k8 : NumsD d8 x.cu) : x.st.length ≤ 140737488351232 ∧ x.bo.length ≤ 140737488351232 ∧ x.cu.length ≤ 140737488351232 :=
  ⟨nums_small h ht hd raw_und (i := 4) rfl rfl h6 Tryd.underlying24 int_eight k6, nums_small h ht hd raw_und (i := 5) rfl rfl h7 Tryd.underlying24 int_eight k7, nums_small h ht hd raw_und (i := 6) rfl rfl h8 Tryd.underlying24 int_eight k8⟩
end
end Go.Proofs.YtaopknddpagjeaaDoor
