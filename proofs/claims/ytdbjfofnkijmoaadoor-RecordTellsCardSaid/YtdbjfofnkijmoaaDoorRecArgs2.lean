/- record: raw records that came in as arguments. -/
import Derived.Test.YtdbjfofnkijmoaaDoorRecFit
import Derived.Test.YtdbjfofnkijmoaaDoorRecArgs
import Derived.Test.YtdbjfofnkijmoaaDoorAggArgs
import Derived.Test.YtdbjfofnkijmoaaDoorArgs
import Derived.Deep.Slices
namespace Go.Proofs.YtdbjfofnkijmoaaDoor
open Go.RowKit Go.ChangeShapes Go.WideShapes Go.Deep
set_option linter.unusedVariables false
set_option linter.unusedSimpArgs false

def I64 (a : Int) : Prop := -9223372036854775808 ≤ a ∧ a ≤ 9223372036854775807
theorem wf_rng {n : Int} (h : (Lit.int .i64 n).wf = true) : I64 n := by
  simp [Lit.wf, IntKind.min, IntKind.max, IntKind.signed, IntKind.bits] at h; exact ⟨by omega, by omega⟩
def NumsD {H : Type} (d : DataW H) (l : List Int) : Prop := d = .nil ∧ l = [] ∨ ∃ spare, d = .slice (l.map fun n => .lit (.int .i64 n)) spare
section
variable {H : Type} {P : Program} {ts : List TypeId} {ds : List (DataW H)}
theorem weights_nth {n : Nat} {t : TypeId} {d : DataW H} : ∀ {fs : List TypeId} {ys : List (DataW H)} {i : Nat}, fs[i]? = some t → ys[i]? = some d → n ∈ d.weights P t → n ∈ DataW.weightsEach P fs ys := by
  intro fs
  induction fs with
  | nil => intro ys i h; simp at h
  | cons f fs ih =>
    intro ys i h1 h2 h3
    cases ys with
    | nil => simp at h2
    | cons y ys =>
      simp only [DataW.weightsEach, List.mem_append]
      cases i with
      | zero => simp at h1 h2; subst h1 h2; exact .inl h3
      | succ i => exact .inr (ih (by simpa using h1) (by simpa using h2) h3)
theorem nums_small (h : (DataW.weightsEach P ts ds).all (· ≤ reachBytes) = true) {j i : Nat} {t e u : TypeId} {fs : Array Field} {f : Field} {ys : List (DataW H)} {d : DataW H} {l : List Int} (ht : ts[j]? = some t) (hd : ds[j]? = some (.agg ys)) (hu : P.underlying t = some (.struct fs))
    (hf : fs[i]? = some f) (hft : f.type = u) (hy : ys[i]? = some d) (hs : P.underlying u = some (.slice e)) (hb : P.bytesOf e = 8) (hl : NumsD d l) : l.length ≤ 140737488351232 := by
  rcases hl with ⟨_, rfl⟩ | ⟨spare, rfl⟩
  · simp
  · have := List.all_eq_true.1 h _ (DataW.weights_mem_each ht hd ((l.length + spare.length) * 8) (by
      simp only [DataW.weights, hu]
      refine weights_nth (i := i) (t := u) (by simp [hf, hft]) hy ?_
      simp [DataW.weights, hs, hb]))
    have h2 : (l.length + spare.length) * 8 ≤ reachBytes := of_decide_eq_true this
    simp [reachBytes] at h2
    omega
end
theorem geo_flat : flatF Tryd.prog (Tryd.prog.fieldsOf 23) = true := by kernel_rfl
theorem geo_cells : Tryd.prog.cellsOf 23 = (Tryd.prog.fieldsOf 23).size := by kernel_rfl
theorem geo_und : Tryd.prog.underlying 23 = some (.struct (Tryd.prog.fieldsOf 23)) := by kernel_rfl
theorem geo_three : Tryd.prog.cellsOf 23 = 3 := by kernel_rfl
theorem ints_one : Tryd.prog.cellsOf 40 = 1 := by kernel_rfl
theorem int_eight : Tryd.prog.bytesOf 3 = 8 := by kernel_rfl
section
variable {H : Type} {enc : TypeId × Value → H} {w : World} {base b0 : Nat} {held : Bool} {r : Reach}
set_option maxRecDepth 100000 in
theorem geo_parts {n : Nat} {q3 q4 q5 : Value} {y : DataW H × List MemPlace} (h : DataW.trod enc Tryd.prog w base (fun _ => true) held n 23 [q3, q4, q5] = some y) :
    ∃ a b c : Int, q3 = .int .i64 a ∧ q4 = .int .i64 b ∧ q5 = .int .i64 c ∧ I64 a ∧ I64 b ∧ I64 c := by
  obtain ⟨ys, n', _, _, hl, hg⟩ := trod_fields geo_und geo_flat geo_cells h
  obtain ⟨c0, y0, e0, k0, t0⟩ := hg 0 _ rfl
  obtain ⟨c1, y1, e1, k1, t1⟩ := hg 1 _ rfl
  obtain ⟨c2, y2, e2, k2, t2⟩ := hg 2 _ rfl
  obtain ⟨a, rfl, _, ra⟩ := field_int Tryd.underlying3 t0
  obtain ⟨b, rfl, _, rb⟩ := field_int Tryd.underlying3 t1
  obtain ⟨c, rfl, _, rc⟩ := field_int Tryd.underlying3 t2
  exact ⟨a, b, c, by simpa using e0, by simpa using e1, by simpa using e2, ra, rb, rc⟩
set_option maxRecDepth 100000 in
/-- A list of numbers in a cell. -/
theorem nums_cell {n : Nat} {q : Value} {y : DataW H × List MemPlace} (hq : Value.okWide Tryd.prog w r b0 40 q) (h : DataW.trod enc Tryd.prog w base (fun _ => true) held n 40 [q] = some y) :
    ∃ l : List Int, Reads w q (l.map (.int .i64)) ∧ (∀ n ∈ l, I64 n) ∧ NumsD y.1 l := by
  obtain ⟨a0, len0, cap0, rfl⟩ := okWide_slice Tryd.underlying40 hq
  obtain ⟨l, h1, _, h3, h4⟩ := open_nums (d := y.1) (p := y.2) Tryd.underlying40 Tryd.underlying3 int_one hq ⟨n, h⟩
  exact ⟨l, h1, fun m hm => wf_rng (h3 m hm), h4⟩
theorem raw_und : Tryd.prog.underlying 42 = some (.struct (Tryd.prog.fieldsOf 42)) := by kernel_rfl
theorem raw_cells : Tryd.prog.cellsOf 42 = 6 := by kernel_rfl
theorem raw_size : (Tryd.prog.fieldsOf 42).size = 4 := by kernel_rfl
theorem raw_types : Tryd.prog.cellTypes Tryd.prog.depth 42 = some [3, 3, 3, 3, 40, 40] := by kernel_rfl
/-- Its numbers fit. -/
structure NumsR (x : Raw) : Prop where
  k : I64 x.k
  m : I64 x.m
  b : I64 x.b
  q : I64 x.q
  st : ∀ n ∈ x.st, I64 n
  le : ∀ n ∈ x.le, I64 n
set_option maxRecDepth 100000 in
theorem parts_raw {fuel : Nat} {cs : List Value} {d : DataW H × List MemPlace} (hrow : Row.okWide Tryd.prog w r b0 42 cs.toArray) (h : DataW.trod enc Tryd.prog w base (fun _ => true) held fuel 42 cs = some d) :
    ∃ (x : Raw) (va vb : Value) (d2 d3 : DataW H) (ys : List (DataW H)), cs = [.int .i64 x.k, .int .i64 x.m, .int .i64 x.b, .int .i64 x.q, va, vb] ∧ Reads w va (x.st.map (.int .i64)) ∧ Reads w vb (x.le.map (.int .i64)) ∧ NumsR x ∧
      d.1 = .agg ys ∧ ys[2]? = some d2 ∧ ys[3]? = some d3 ∧ NumsD d2 x.st ∧ NumsD d3 x.le := by
  obtain ⟨ys, n, _, hx, hl, hn, hg⟩ := DataW.trod_struct raw_und h
  rw [raw_cells] at hl
  rw [raw_size] at hn
  match cs, hl with
  | [q0, q1, q2, q3, q4, q5], _ =>
  match ys, hn with
  | [y0, y1, y2, y3], _ =>
    have g0 : DataW.trod enc Tryd.prog w base (fun _ => true) held n 23 (([q0, q1, q2, q3, q4, q5].drop 0).take (Tryd.prog.cellsOf 23)) = some y0 := hg 0 _ rfl
    have g1 : DataW.trod enc Tryd.prog w base (fun _ => true) held n 3 (([q0, q1, q2, q3, q4, q5].drop 3).take (Tryd.prog.cellsOf 3)) = some y1 := hg 1 _ rfl
    have g2 : DataW.trod enc Tryd.prog w base (fun _ => true) held n 40 (([q0, q1, q2, q3, q4, q5].drop 4).take (Tryd.prog.cellsOf 40)) = some y2 := hg 2 _ rfl
    have g3 : DataW.trod enc Tryd.prog w base (fun _ => true) held n 40 (([q0, q1, q2, q3, q4, q5].drop 5).take (Tryd.prog.cellsOf 40)) = some y3 := hg 3 _ rfl
    rw [geo_three] at g0
    rw [int_one] at g1
    rw [ints_one] at g2 g3
    obtain ⟨ct, hct, _, hcell⟩ := hrow
    rw [raw_types] at hct
    obtain rfl := Option.some.inj hct
    have hs : ∀ i q, [q0, q1, q2, q3, q4, q5].toArray[i]? = some q → 4 ≤ i → i < 6 → Value.okWide Tryd.prog w r b0 40 q := fun i q hq h6 h9 => by
      obtain ⟨u, hu, hc⟩ := hcell i q hq
      have : u = 40 := by
        rcases (by omega : i = 4 ∨ i = 5) with rfl | rfl <;> simpa using hu.symm
      subst this
      unfold Value.okWide
      rw [Tryd.underlying40]
      exact hc
    obtain ⟨a0, a1, a2, rfl, rfl, rfl, r0, r1, r2⟩ := geo_parts g0
    obtain ⟨a3, rfl, _, r3⟩ := field_int Tryd.underlying3 g1
    obtain ⟨l4, R4, I4, D4⟩ := nums_cell (hs 4 q4 rfl (by decide) (by decide)) g2
    obtain ⟨l5, R5, I5, D5⟩ := nums_cell (hs 5 q5 rfl (by decide) (by decide)) g3
    exact ⟨⟨a0, a1, a2, a3, l4, l5⟩, q4, q5, y2.1, y3.1, _, rfl, R4, R5, ⟨r0, r1, r2, r3, I4, I5⟩, by rw [hx], rfl, rfl, D4, D5⟩
set_option maxRecDepth 100000 in
theorem open_raw11 {v : Value} {d : DataW H} {p : List MemPlace} (hv : Value.okWide Tryd.prog w r b0 42 v) (h : DataW.Trod enc Tryd.prog w base (fun _ => true) held 42 v d p) {ts : List TypeId} {ds : List (DataW H)} (hsz : (DataW.weightsEach Tryd.prog ts ds).all (· ≤ reachBytes) = true) {j : Nat} (ht : ts[j]? = some 42) (hd : ds[j]? = some d) :
    ∃ (x : Raw) (va vb : Value), v = x.v va vb ∧ Reads w va (x.st.map (.int .i64)) ∧ Reads w vb (x.le.map (.int .i64)) ∧ RawOk x := by
  unfold Value.okWide at hv
  rw [raw_und] at hv
  obtain ⟨cs, rfl, _, hrow⟩ := hv
  obtain ⟨fuel, hf⟩ := h
  obtain ⟨x, va, vb, d2, d3, ys, e1, R1, R2, N, ed, e2, e3, k2, k3⟩ := parts_raw (cs := cs.toList) (by simpa using hrow) hf
  refine ⟨x, va, vb, congrArg Value.agg (Array.ext' e1), R1, R2, ?_⟩
  have ed : d = .agg ys := ed
  subst ed
  have s2 := nums_small hsz ht hd raw_und (i := 2) rfl rfl e2 Tryd.underlying40 int_eight k2
  have s3 := nums_small hsz ht hd raw_und (i := 3) rfl rfl e3 Tryd.underlying40 int_eight k3
  exact ⟨N.k, N.m, N.b, N.q, N.st, N.le, by omega, by omega⟩
end
end Go.Proofs.YtdbjfofnkijmoaaDoor
