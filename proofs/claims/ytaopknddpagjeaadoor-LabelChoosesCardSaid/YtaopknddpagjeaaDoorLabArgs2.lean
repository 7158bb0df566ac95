/- label: label: lists of raw labels, and of what was found, that came in as arguments. -/
import Derived.Test.YtaopknddpagjeaaDoorAggArgs
import Derived.Test.YtaopknddpagjeaaDoorArgs
import Derived.Test.YtaopknddpagjeaaDoorSk
import Derived.Deep.Slices
import Derived.Deep.Grids
import Derived.Test.YtaopknddpagjeaaDoorLabArgs
import Derived.Test.YtaopknddpagjeaaDoorLabFam
namespace Go.Proofs.YtaopknddpagjeaaDoor
section
open Go.RowKit Go.ChangeShapes Go.WideShapes Go.Deep
set_option linter.unusedVariables false
set_option linter.unusedSimpArgs false

/-- What a row of structs reads as. -/
def StD {α H : Type} (Good : α → DataW H → Prop) (d : DataW H) (l : List α) : Prop :=
  d = .nil ∧ l = [] ∨ ∃ ds spare, d = .slice ds spare ∧ ds.length = l.length ∧ ∀ i (hi : i < l.length) (hj : i < ds.length), Good l[i] ds[i]
section
variable {H : Type} {enc : TypeId × Value → H} {P : Program} {w : World} {base b0 : Nat} {held : Bool} {r : Reach} {α : Type} [Inhabited α]
theorem open_structs (E : Enc α) {S T : TypeId} (hS : P.underlying S = some (.slice T)) (hk : P.cellsOf T = E.k) {Good : α → DataW H → Prop}
    (hpart : ∀ n cs y, DataW.trod enc P w base (fun _ => true) held n T cs = some y → ∃ x, cs = E.f x ∧ Good x y.1) {fuel : Nat} {cs : List Value} {x : DataW H × List MemPlace} (h : DataW.trod enc P w base (fun _ => true) held fuel S cs = some x) :
    ∃ (l : List α) (v : Value), cs = [v] ∧ ReadsE E w v l ∧ (∃ a c, v = .slice a l.length c ∧ l.length ≤ c ∧ c ≤ 9223372036854775807) ∧ (∀ a ∈ l, ∃ d, Good a d) ∧ StD Good x.1 l := by
  rcases Deep.open_slice hS h with ⟨rfl, rfl⟩ | ⟨a, len, cap, m, n, D, Pl, rfl, _, hl, hm, hmm, rfl, hcell⟩
  · exact ⟨[], _, rfl, .inl ⟨⟨_, _, rfl⟩, rfl⟩, ⟨none, 0, rfl, Nat.le_refl _, by omega⟩, (fun a ha => by cases ha), .inl ⟨rfl, rfl⟩⟩
  · simp only [if_true] at hmm
    subst hmm
    have hm' : m ≤ 9223372036854775807 := by unfold maxLen at hm; omega
    have each : ∀ i, i < len → ∃ y : α, w.cells? base (a.add (i * E.k)) E.k = some (E.f y) ∧ Good y (D i) := by
      intro i hi
      obtain ⟨cs', hc, ht⟩ := hcell i (by omega)
      obtain ⟨y, rfl, hg⟩ := hpart _ _ _ ht
      rw [hk] at hc
      exact ⟨y, hc, hg⟩
    obtain ⟨g, hg⟩ := Go.Deep.choose_lt each
    have hcs : ∀ i, i < len → ∀ j, j < E.k → w.cell? ((a.add (i * E.k)).add j) = (E.f (g i))[j]? := fun i hi j hj => by
      obtain ⟨_, _, hat⟩ := World.cells?_some (hg i hi).1
      exact hat j hj
    have hgood : ∀ y ∈ (List.range len).map g, ∃ d, Good y d := fun y hy => by
      obtain ⟨i, hi, rfl⟩ := List.mem_map.1 hy
      exact ⟨_, (hg i (List.mem_range.1 hi)).2⟩
    refine ⟨(List.range len).map g, _, rfl, ?_, ⟨some a, m, by simp, by simpa using hl, hm'⟩, hgood, .inr ⟨_, _, rfl, by simp, fun i hi hj => ?_⟩⟩
    · rcases Nat.eq_zero_or_pos len with rfl | hpos
      · exact .inl ⟨⟨_, _, rfl⟩, rfl⟩
      · have h0 := hcs 0 hpos 0 E.pos
        have hl0 : 0 < (E.f (g 0)).length := by rw [E.len]; exact E.pos
        rw [List.getElem?_eq_getElem hl0] at h0
        obtain ⟨b, off, spot⟩ := a
        have hb : b < w.heap.size ∧ spot = none := by
          unfold World.cell? at h0
          have e1 : (((⟨b, off, spot⟩ : Addr).add (0 * E.k)).add 0).block = b := by unfold Addr.add; split <;> (split <;> rfl)
          rw [e1] at h0
          split at h0
          · rename_i c T0 F0 hb
            refine ⟨(Array.getElem?_eq_some_iff.1 hb).1, ?_⟩
            cases spot with
            | none => rfl
            | some s => simp [Addr.add] at h0
          · cases h0
        obtain ⟨hb, rfl⟩ := hb
        refine .inr ⟨b, off, m, by simp, hb, fun j u hj => ?_⟩
        have hjl : j < len * E.k := by
          have := (List.getElem?_eq_some_iff.1 hj).1
          rw [E.all_len, List.length_map, List.length_range] at this
          exact this
        have hd : j = j / E.k * E.k + j % E.k := by rw [Nat.mul_comm]; exact (Nat.div_add_mod _ _).symm
        have hr : j % E.k < E.k := Nat.mod_lt _ E.pos
        have ha : j / E.k < len := Nat.div_lt_of_lt_mul (by rwa [Nat.mul_comm])
        generalize j / E.k = q at hd ha
        generalize j % E.k = s at hd hr
        subst hd
        have := E.all_get ((List.range len).map g) q (by simpa using ha) s hr
        rw [this] at hj
        simp only [List.getElem_map, List.getElem_range] at hj
        have := hcs q ha s hr
        rw [addr_at, addr_at] at this
        rw [← Nat.add_assoc, this]; exact hj
    · simp only [List.getElem_map, List.getElem_range]
      exact (hg i (by simpa using hi)).2
end
section
variable {H : Type} {P : Program} {ts : List TypeId} {ds : List (DataW H)} {α : Type}
/-- All weights at most what is reached. -/
def LightD (P : Program) (t : TypeId) (d : DataW H) : Prop := ∀ n ∈ d.weights P t, n ≤ reachBytes
theorem light_arg (h : (DataW.weightsEach P ts ds).all (· ≤ reachBytes) = true) {j : Nat} {t : TypeId} {d : DataW H} (ht : ts[j]? = some t) (hd : ds[j]? = some d) : LightD P t d :=
  fun n hn => of_decide_eq_true (List.all_eq_true.1 h n (DataW.weights_mem_each ht hd n hn))
theorem light_each {n : Nat} {t : TypeId} {d : DataW H} : ∀ {fs : List TypeId} {ys : List (DataW H)} {i : Nat}, fs[i]? = some t → ys[i]? = some d → n ∈ d.weights P t → n ∈ DataW.weightsEach P fs ys := by
  intro fs
  induction fs with
  | nil => intro ys i h; simp at h
  | cons f fs ih =>
    intro ys i h1 h2 h3
    cases ys with
    | nil => simp at h2
    | cons y ys =>
      simp only [DataW.weightsEach, List.mem_append]
      cases i with
      | zero => simp at h1 h2; subst h1 h2; exact .inl h3
      | succ i => exact .inr (ih (by simpa using h1) (by simpa using h2) h3)
theorem light_field {t u : TypeId} {fs : Array Field} {f : Field} {ys : List (DataW H)} {d : DataW H} (h : LightD P t (.agg ys)) (hu : P.underlying t = some (.struct fs)) {i : Nat} (hf : fs[i]? = some f) (hft : f.type = u) (hy : ys[i]? = some d) : LightD P u d :=
  fun n hn => h n (by
    simp only [DataW.weights, hu]
    exact light_each (i := i) (t := u) (by simp [hf, hft]) hy hn)
theorem light_len {S T : TypeId} {xs spare : List (DataW H)} (h : LightD P S (.slice xs spare)) (hS : P.underlying S = some (.slice T)) (hb : 1 ≤ P.bytesOf T) : xs.length ≤ 140737488351232 := by
  have := h ((xs.length + spare.length) * P.bytesOf T) (by simp [DataW.weights, hS])
  have h2 : xs.length * 1 ≤ (xs.length + spare.length) * P.bytesOf T := Nat.mul_le_mul (by omega) hb
  simp [reachBytes] at this
  omega
theorem light_at {S T : TypeId} {xs spare : List (DataW H)} {d : DataW H} (h : LightD P S (.slice xs spare)) (hS : P.underlying S = some (.slice T)) (hd : d ∈ xs) : LightD P T d :=
  fun n hn => h n (by
    simp only [DataW.weights, hS]
    exact List.mem_cons_of_mem _ (List.mem_append.2 (.inl (weights_all hd hn))))
theorem StD.len {S T : TypeId} {Good : α → DataW H → Prop} {d : DataW H} {l : List α} (h : StD Good d l) (hw : LightD P S d) (hS : P.underlying S = some (.slice T)) (hb : 1 ≤ P.bytesOf T) : l.length ≤ 140737488351232 := by
  rcases h with ⟨_, rfl⟩ | ⟨xs, spare, rfl, e, _⟩
  · simp
  · rw [← e]; exact light_len hw hS hb
theorem StD.each {S T : TypeId} {Good : α → DataW H → Prop} {d : DataW H} {l : List α} (h : StD Good d l) (hw : LightD P S d) (hS : P.underlying S = some (.slice T)) : ∀ a ∈ l, ∃ y, Good a y ∧ LightD P T y := by
  intro a ha
  rcases h with ⟨_, rfl⟩ | ⟨xs, spare, rfl, e, g⟩
  · cases ha
  · obtain ⟨i, hi, rfl⟩ := List.getElem_of_mem ha
    exact ⟨xs[i]'(by omega), g i hi (by omega), light_at hw hS (List.getElem_mem _)⟩
end
end
section
open Go.RowKit Go.ChangeShapes Go.WideShapes
set_option linter.unusedVariables false
set_option linter.unusedSimpArgs false

section
variable {H : Type} {enc : TypeId × Value → H} {P : Program} {w : World} {base b0 : Nat} {held : Bool} {r : Reach}
theorem open_flags {t e : TypeId} {v : Value} {d : DataW H} {p : List MemPlace} (ht : P.underlying t = some (.slice e)) (he : P.underlying e = some .bool) (hc : P.cellsOf e = 1)
    (hval : Value.okWide P w r b0 t v) (h : DataW.Trod enc P w base (fun _ => true) held t v d p) :
    ∃ l : List Bool, Reads w v (l.map .bool) ∧ (∃ a len cap, v = .slice a len cap ∧ len ≤ cap) ∧
      (d = .nil ∧ l = [] ∨ ∃ spare, d = .slice (l.map fun s => .lit (.bool s)) spare) := by
  obtain ⟨fuel, hf⟩ := h
  obtain ⟨a0, len0, cap0, rfl⟩ := okWide_slice ht hval
  rcases Deep.open_bools ht he hc hf with ⟨hcs, hx⟩ | ⟨a, len, cap, B, hcs, _, hl, hm, hx, hcell⟩
  · simp [Value.cells] at hcs
    obtain ⟨rfl, rfl, rfl⟩ := hcs
    simp only [Prod.mk.injEq] at hx
    exact ⟨[], .inl ⟨⟨_, _, rfl⟩, rfl⟩, ⟨_, _, _, rfl, Nat.le_refl _⟩, .inl ⟨hx.1, rfl⟩⟩
  · simp [Value.cells] at hcs
    obtain ⟨rfl, rfl, rfl⟩ := hcs
    simp only [Prod.mk.injEq] at hx
    obtain ⟨h1, h2, h3⟩ := okWide_at ht hval
    obtain ⟨b, off, spot⟩ := a
    simp only at h1 h2
    subst h1
    refine ⟨(List.range len0).map B, .inr ⟨b, off, cap0, by simp, h2, fun i hi => ?_⟩, ⟨_, _, _, rfl, h3⟩, .inr ⟨(List.range (cap0 - len0)).map fun j => .lit (.bool (B (len0 + j))), by rw [hx.1]; simp [Deep.boolRow]⟩⟩
    have hi' : i < len0 := by simpa using hi
    have := hcell i (by omega)
    rw [addr_at] at this
    rw [this]
    simp [List.getD_eq_getElem?_getD, List.getElem?_map, List.getElem?_range hi']
end
section
variable {H : Type} {P : Program} {ts : List TypeId} {ds : List (DataW H)}
theorem sized_flags (h : (DataW.weightsEach P ts ds).all (· ≤ reachBytes) = true) {j : Nat} {t e : TypeId} {l : List Bool} {d : DataW H} {n : Nat} (ht : ts[j]? = some t) (hd : ds[j]? = some d) (hu : P.underlying t = some (.slice e)) (hb : P.bytesOf e = n) (hn : 1 ≤ n)
    (hl : d = .nil ∧ l = [] ∨ ∃ spare, d = .slice (l.map fun s => .lit (.bool s)) spare) : l.length ≤ 140737488351232 := by
  rcases hl with ⟨_, rfl⟩ | ⟨spare, rfl⟩
  · simp
  · have h1 := sized_slice h ht hd hu
    rw [hb, List.length_map] at h1
    have : l.length * 1 ≤ (l.length + spare.length) * n := Nat.mul_le_mul (by omega) hn
    simp [reachBytes] at h1
    omega
end
end
open Go.RowKit Go.ChangeShapes Go.WideShapes Go.Deep
set_option linter.unusedVariables false
set_option linter.unusedSimpArgs false
open Lb

def rawE : Enc Fd where
  k := 9
  f := fun f => [.int .i64 f.x.i, .int .i64 f.x.s, .int .i64 f.x.g, .int .i64 f.x.k, .int .i64 f.x.m, .int .i64 f.x.b, cell1 f.va, cell1 f.vb, cell1 f.vc]
  pos := by decide
  len := fun _ => rfl
  one := fun a u hu => by
    simp only [List.mem_cons, List.not_mem_nil, or_false] at hu
    rcases hu with rfl | rfl | rfl | rfl | rfl | rfl | rfl | rfl | rfl
    · rfl
    · rfl
    · rfl
    · rfl
    · rfl
    · rfl
    · exact cell1_one _
    · exact cell1_one _
    · exact cell1_one _
instance : Inhabited Fd := ⟨⟨false, ⟨0, 0, 0, 0, 0, 0, [], [], []⟩, .nilFunc, .nilFunc, .nilFunc⟩⟩
/-- A label's data. -/
def LblD {H : Type} (x : Lbl) (d : DataW H) : Prop := ∃ (d6 d7 d8 : DataW H) (ys : List (DataW H)), d = .agg ys ∧ ys[4]? = some d6 ∧ ys[5]? = some d7 ∧ ys[6]? = some d8 ∧ NumsD d6 x.st ∧ NumsD d7 x.bo ∧ NumsD d8 x.cu
/-- What its lists read as, and how great its numbers are. -/
def LblR (w : World) (f : Fd) : Prop := Reads w f.va (f.x.st.map (.int .i64)) ∧ Reads w f.vb (f.x.bo.map (.int .i64)) ∧ Reads w f.vc (f.x.cu.map (.int .i64)) ∧ NumsOk f.x
def FdD {H : Type} (f : Fd) (d : DataW H) : Prop := ∃ (dl : DataW H) (ys : List (DataW H)), d = .agg ys ∧ ys[1]? = some dl ∧ LblD f.x dl
theorem fnd_und : Tryd.prog.underlying 45 = some (.struct (Tryd.prog.fieldsOf 45)) := by kernel_rfl
theorem fnd_cells : Tryd.prog.cellsOf 45 = 10 := by kernel_rfl
theorem fnd_size : (Tryd.prog.fieldsOf 45).size = 2 := by kernel_rfl
theorem bool_one1 : Tryd.prog.cellsOf 4 = 1 := by kernel_rfl
section
variable {H : Type} {enc : TypeId × Value → H} {w : World} {base b0 : Nat} {held : Bool} {r : Reach}
set_option maxRecDepth 100000 in
/-- A list of numbers in whatever cell. -/
theorem nums_in {n : Nat} {q : Value} {y : DataW H × List MemPlace} (h : DataW.trod enc Tryd.prog w base (fun _ => true) held n 24 [q] = some y) :
    ∃ l : List Int, Reads w q (l.map (.int .i64)) ∧ (∀ n ∈ l, I64 n) ∧ NumsD y.1 l := by
  rcases open_ints Tryd.underlying24 Tryd.underlying3 int_one h with ⟨hcs, rfl⟩ | ⟨a, len, cap, zs, hcs, _, hl, hm, hz, rfl, hcell, hwf⟩
  · obtain rfl : q = .slice none 0 0 := by simpa using hcs
    exact ⟨[], .inl ⟨⟨_, _, rfl⟩, rfl⟩, (fun n hn => by cases hn), .inl ⟨rfl, rfl⟩⟩
  · obtain rfl : q = .slice (some a) len cap := by simpa using hcs
    simp only [if_true] at hz
    refine ⟨zs.take len, ?_, fun n hn => wf_rng (hwf n (List.mem_of_mem_take hn)), .inr ⟨_, rfl⟩⟩
    rcases Nat.eq_zero_or_pos len with rfl | hpos
    · exact .inl ⟨⟨_, _, rfl⟩, rfl⟩
    · have h0 := hcell 0 (by omega)
      obtain ⟨b, off, spot⟩ := a
      have hb : b < w.heap.size ∧ spot = none := by
        unfold World.cell? at h0
        have e1 : ((⟨b, off, spot⟩ : Addr).add 0).block = b := by unfold Addr.add; split <;> rfl
        rw [e1] at h0
        split at h0
        · rename_i c T0 F0 hb
          refine ⟨(Array.getElem?_eq_some_iff.1 hb).1, ?_⟩
          cases spot with
          | none => rfl
          | some s => simp [Addr.add] at h0
        · cases h0
      obtain ⟨hb, rfl⟩ := hb
      refine .inr ⟨b, off, cap, by simp; omega, hb, fun i hi => ?_⟩
      have hi' : i < len := by simp at hi; omega
      have := hcell i (by omega)
      rw [addr_at] at this
      rw [this]
      simp [List.getD_eq_getElem?_getD, List.getElem?_take, hi', show i < zs.length by omega]
set_option maxRecDepth 100000 in
theorem in_raw {fuel : Nat} {cs : List Value} {d : DataW H × List MemPlace} (h : DataW.trod enc Tryd.prog w base (fun _ => true) held fuel 36 cs = some d) :
    ∃ f : Fd, f.has = true ∧ cs = rawE.f f ∧ LblR w f ∧ LblD f.x d.1 := by
  obtain ⟨ys, n, _, hx, hl, hn, hg⟩ := DataW.trod_struct raw_und h
  rw [raw_cells] at hl
  rw [raw_size] at hn
  match cs, hl with
  | [q0, q1, q2, q3, q4, q5, q6, q7, q8], _ =>
  match ys, hn with
  | [y0, y1, y2, y3, y4, y5, y6], _ =>
    have g0 : DataW.trod enc Tryd.prog w base (fun _ => true) held n 3 (([q0, q1, q2, q3, q4, q5, q6, q7, q8].drop 0).take (Tryd.prog.cellsOf 3)) = some y0 := hg 0 _ rfl
    have g1 : DataW.trod enc Tryd.prog w base (fun _ => true) held n 3 (([q0, q1, q2, q3, q4, q5, q6, q7, q8].drop 1).take (Tryd.prog.cellsOf 3)) = some y1 := hg 1 _ rfl
    have g2 : DataW.trod enc Tryd.prog w base (fun _ => true) held n 3 (([q0, q1, q2, q3, q4, q5, q6, q7, q8].drop 2).take (Tryd.prog.cellsOf 3)) = some y2 := hg 2 _ rfl
    have g3 : DataW.trod enc Tryd.prog w base (fun _ => true) held n 23 (([q0, q1, q2, q3, q4, q5, q6, q7, q8].drop 3).take (Tryd.prog.cellsOf 23)) = some y3 := hg 3 _ rfl
    have g4 : DataW.trod enc Tryd.prog w base (fun _ => true) held n 24 (([q0, q1, q2, q3, q4, q5, q6, q7, q8].drop 6).take (Tryd.prog.cellsOf 24)) = some y4 := hg 4 _ rfl
    have g5 : DataW.trod enc Tryd.prog w base (fun _ => true) held n 24 (([q0, q1, q2, q3, q4, q5, q6, q7, q8].drop 7).take (Tryd.prog.cellsOf 24)) = some y5 := hg 5 _ rfl
    have g6 : DataW.trod enc Tryd.prog w base (fun _ => true) held n 24 (([q0, q1, q2, q3, q4, q5, q6, q7, q8].drop 8).take (Tryd.prog.cellsOf 24)) = some y6 := hg 6 _ rfl
    rw [int_one] at g0 g1 g2
    rw [geo_three] at g3
    rw [ints_one] at g4 g5 g6
    obtain ⟨a0, rfl, _, r0⟩ := field_int Tryd.underlying3 g0
    obtain ⟨a1, rfl, _, r1⟩ := field_int Tryd.underlying3 g1
    obtain ⟨a2, rfl, _, r2⟩ := field_int Tryd.underlying3 g2
    obtain ⟨a3, a4, a5, rfl, rfl, rfl, r3, r4, r5⟩ := geo_parts g3
    obtain ⟨l4, R4, I4, D4⟩ := nums_in g4
    obtain ⟨l5, R5, I5, D5⟩ := nums_in g5
    obtain ⟨l6, R6, I6, D6⟩ := nums_in g6
    refine ⟨⟨true, ⟨a0, a1, a2, a3, a4, a5, l4, l5, l6⟩, q6, q7, q8⟩, rfl, ?_, ⟨R4, R5, R6, ⟨r0, r1, r2, r3, r4, r5, I4, I5, I6⟩⟩, ⟨y4.1, y5.1, y6.1, _, by rw [hx], rfl, rfl, rfl, D4, D5, D6⟩⟩
    have e6 := cell1_of R4
    have e7 := cell1_of R5
    have e8 := cell1_of R6
    simp only [rawE, e6, e7, e8]
set_option maxRecDepth 100000 in
theorem in_lbl {fuel : Nat} {cs : List Value} {d : DataW H × List MemPlace} (h : DataW.trod enc Tryd.prog w base (fun _ => true) held fuel 26 cs = some d) :
    ∃ f : Fd, f.has = true ∧ cs = rawE.f f ∧ LblR w f ∧ LblD f.x d.1 := by
  obtain ⟨ys, n, _, hx, hl, hn, hg⟩ := DataW.trod_struct lbl_und h
  rw [lbl_cells] at hl
  rw [lbl_size] at hn
  match cs, hl with
  | [q0, q1, q2, q3, q4, q5, q6, q7, q8], _ =>
  match ys, hn with
  | [y0, y1, y2, y3, y4, y5, y6], _ =>
    have g0 : DataW.trod enc Tryd.prog w base (fun _ => true) held n 3 (([q0, q1, q2, q3, q4, q5, q6, q7, q8].drop 0).take (Tryd.prog.cellsOf 3)) = some y0 := hg 0 _ rfl
    have g1 : DataW.trod enc Tryd.prog w base (fun _ => true) held n 3 (([q0, q1, q2, q3, q4, q5, q6, q7, q8].drop 1).take (Tryd.prog.cellsOf 3)) = some y1 := hg 1 _ rfl
    have g2 : DataW.trod enc Tryd.prog w base (fun _ => true) held n 3 (([q0, q1, q2, q3, q4, q5, q6, q7, q8].drop 2).take (Tryd.prog.cellsOf 3)) = some y2 := hg 2 _ rfl
    have g3 : DataW.trod enc Tryd.prog w base (fun _ => true) held n 23 (([q0, q1, q2, q3, q4, q5, q6, q7, q8].drop 3).take (Tryd.prog.cellsOf 23)) = some y3 := hg 3 _ rfl
    have g4 : DataW.trod enc Tryd.prog w base (fun _ => true) held n 24 (([q0, q1, q2, q3, q4, q5, q6, q7, q8].drop 6).take (Tryd.prog.cellsOf 24)) = some y4 := hg 4 _ rfl
    have g5 : DataW.trod enc Tryd.prog w base (fun _ => true) held n 24 (([q0, q1, q2, q3, q4, q5, q6, q7, q8].drop 7).take (Tryd.prog.cellsOf 24)) = some y5 := hg 5 _ rfl
    have g6 : DataW.trod enc Tryd.prog w base (fun _ => true) held n 24 (([q0, q1, q2, q3, q4, q5, q6, q7, q8].drop 8).take (Tryd.prog.cellsOf 24)) = some y6 := hg 6 _ rfl
    rw [int_one] at g0 g1 g2
    rw [geo_three] at g3
    rw [ints_one] at g4 g5 g6
    obtain ⟨a0, rfl, _, r0⟩ := field_int Tryd.underlying3 g0
    obtain ⟨a1, rfl, _, r1⟩ := field_int Tryd.underlying3 g1
    obtain ⟨a2, rfl, _, r2⟩ := field_int Tryd.underlying3 g2
    obtain ⟨a3, a4, a5, rfl, rfl, rfl, r3, r4, r5⟩ := geo_parts g3
    obtain ⟨l4, R4, I4, D4⟩ := nums_in g4
    obtain ⟨l5, R5, I5, D5⟩ := nums_in g5
    obtain ⟨l6, R6, I6, D6⟩ := nums_in g6
    refine ⟨⟨true, ⟨a0, a1, a2, a3, a4, a5, l4, l5, l6⟩, q6, q7, q8⟩, rfl, ?_, ⟨R4, R5, R6, ⟨r0, r1, r2, r3, r4, r5, I4, I5, I6⟩⟩, ⟨y4.1, y5.1, y6.1, _, by rw [hx], rfl, rfl, rfl, D4, D5, D6⟩⟩
    have e6 := cell1_of R4
    have e7 := cell1_of R5
    have e8 := cell1_of R6
    simp only [rawE, e6, e7, e8]
set_option maxRecDepth 100000 in
theorem in_fnd {fuel : Nat} {cs : List Value} {d : DataW H × List MemPlace} (h : DataW.trod enc Tryd.prog w base (fun _ => true) held fuel 45 cs = some d) :
    ∃ f : Fd, cs = fdE.f f ∧ LblR w f ∧ FdD f d.1 := by
  obtain ⟨ys, n, _, hx, hl, hn, hg⟩ := DataW.trod_struct fnd_und h
  rw [fnd_cells] at hl
  rw [fnd_size] at hn
  match cs, hl with
  | [q0, q1, q2, q3, q4, q5, q6, q7, q8, q9], _ =>
  match ys, hn with
  | [y0, y1], _ =>
    have g0 : DataW.trod enc Tryd.prog w base (fun _ => true) held n 4 (([q0, q1, q2, q3, q4, q5, q6, q7, q8, q9].drop 0).take (Tryd.prog.cellsOf 4)) = some y0 := hg 0 _ rfl
    have g1 : DataW.trod enc Tryd.prog w base (fun _ => true) held n 26 (([q0, q1, q2, q3, q4, q5, q6, q7, q8, q9].drop 1).take (Tryd.prog.cellsOf 26)) = some y1 := hg 1 _ rfl
    rw [bool_one1] at g0
    rw [lbl_cells] at g1
    obtain ⟨b, hb, _⟩ := DataW.trod_bool Tryd.underlying4 g0
    obtain rfl : q0 = .bool b := by simpa using hb
    obtain ⟨f, _, hf, hR, hD⟩ := in_lbl g1
    refine ⟨{ f with has := b }, ?_, hR, ⟨y1.1, _, by rw [hx], rfl, hD⟩⟩
    have e : [q1, q2, q3, q4, q5, q6, q7, q8, q9] = rawE.f f := hf
    simp only [rawE, List.cons.injEq, and_true] at e
    obtain ⟨rfl, rfl, rfl, rfl, rfl, rfl, rfl, rfl, rfl⟩ := e
    rfl
end
section
variable {H : Type} {w : World}
theorem numsD_len {d : DataW H} {l : List Int} (h : NumsD d l) (hw : LightD Tryd.prog 24 d) : l.length ≤ 140737488351232 := by
  rcases h with ⟨_, rfl⟩ | ⟨spare, rfl⟩
  · simp
  · have := light_len hw Tryd.underlying24 (by rw [int_eight]; decide)
    simpa using this
theorem LblD.lens {T : TypeId} (hu : Tryd.prog.underlying T = some (.struct (Tryd.prog.fieldsOf T))) (ht : ∀ i, 4 ≤ i → i < 7 → ∃ f, (Tryd.prog.fieldsOf T)[i]? = some f ∧ f.type = 24) {x : Lbl} {d : DataW H} (h : LblD x d) (hw : LightD Tryd.prog T d) :
    x.st.length ≤ 140737488351232 ∧ x.bo.length ≤ 140737488351232 ∧ x.cu.length ≤ 140737488351232 := by
  obtain ⟨d6, d7, d8, ys, rfl, e6, e7, e8, k6, k7, k8⟩ := h
  obtain ⟨f4, h4, t4⟩ := ht 4 (by decide) (by decide)
  obtain ⟨f5, h5, t5⟩ := ht 5 (by decide) (by decide)
  obtain ⟨f6, h6, t6⟩ := ht 6 (by decide) (by decide)
  exact ⟨numsD_len k6 (light_field hw hu h4 t4 e6), numsD_len k7 (light_field hw hu h5 t5 e7), numsD_len k8 (light_field hw hu h6 t6 e8)⟩
set_option maxRecDepth 100000 in
theorem lbl_lists : ∀ i, 4 ≤ i → i < 7 → ∃ f, (Tryd.prog.fieldsOf 26)[i]? = some f ∧ f.type = 24 := fun i h1 h2 => by
  rcases (by omega : i = 4 ∨ i = 5 ∨ i = 6) with rfl | rfl | rfl <;> exact ⟨_, rfl, rfl⟩
set_option maxRecDepth 100000 in
theorem raw_lists : ∀ i, 4 ≤ i → i < 7 → ∃ f, (Tryd.prog.fieldsOf 36)[i]? = some f ∧ f.type = 24 := fun i h1 h2 => by
  rcases (by omega : i = 4 ∨ i = 5 ∨ i = 6) with rfl | rfl | rfl <;> exact ⟨_, rfl, rfl⟩
set_option maxRecDepth 100000 in
theorem fnd_field : ∃ f, (Tryd.prog.fieldsOf 45)[1]? = some f ∧ f.type = 26 := ⟨_, rfl, rfl⟩
/-- What a list of labels that came in is. -/
structure Came (w : World) (E : Enc Fd) (v : Value) (l : List Fd) : Prop where
  r : ReadsE E w v l
  c : ∃ a c, v = .slice a l.length c ∧ l.length ≤ c ∧ c ≤ 9223372036854775807
  n : l.length ≤ 140737488351232
  lr : ∀ f ∈ l, LR w f.x f.va f.vb f.vc ∧ NumsOk f.x
end
section
variable {H : Type} {enc : TypeId × Value → H} {w : World} {base b0 : Nat} {held : Bool} {r : Reach} {ts : List TypeId} {ds : List (DataW H)}
set_option maxRecDepth 100000 in
theorem open_raws {v : Value} {d : DataW H} {p : List MemPlace} (hv : Value.okWide Tryd.prog w r b0 41 v) (h : DataW.Trod enc Tryd.prog w base (fun _ => true) held 41 v d p) (hsz : (DataW.weightsEach Tryd.prog ts ds).all (· ≤ reachBytes) = true) {j : Nat} (ht : ts[j]? = some 41) (hd : ds[j]? = some d) :
    ∃ l : List Fd, Came w rawE v l := by
  obtain ⟨fuel, hf⟩ := h
  obtain ⟨a0, len0, cap0, rfl⟩ := okWide_slice Tryd.underlying41 hv
  obtain ⟨l, v', e, R, C, _, D⟩ := open_structs rawE Tryd.underlying41 raw_cells (Good := fun f y => LblR w f ∧ LblD f.x y) (fun n cs y hy => by obtain ⟨f, _, e, r, q⟩ := in_raw hy; exact ⟨f, e, r, q⟩) hf
  obtain rfl : v' = .slice a0 len0 cap0 := by simpa [Value.cells] using e.symm
  have hw := light_arg hsz ht hd
  refine ⟨l, R, C, D.len hw Tryd.underlying41 (of_decide_eq_true (by kernel_rfl)), fun f hf' => ?_⟩
  obtain ⟨y, ⟨⟨r1, r2, r3, rn⟩, hD⟩, hy⟩ := D.each hw Tryd.underlying41 f hf'
  obtain ⟨s1, s2, s3⟩ := hD.lens raw_und raw_lists hy
  exact ⟨⟨r1, r2, r3, by omega, by omega, by omega⟩, rn⟩
set_option maxRecDepth 100000 in
theorem open_fnds {v : Value} {d : DataW H} {p : List MemPlace} (hv : Value.okWide Tryd.prog w r b0 42 v) (h : DataW.Trod enc Tryd.prog w base (fun _ => true) held 42 v d p) (hsz : (DataW.weightsEach Tryd.prog ts ds).all (· ≤ reachBytes) = true) {j : Nat} (ht : ts[j]? = some 42) (hd : ds[j]? = some d) :
    ∃ l : List Fd, Came w fdE v l := by
  obtain ⟨fuel, hf⟩ := h
  obtain ⟨a0, len0, cap0, rfl⟩ := okWide_slice Tryd.underlying42 hv
  obtain ⟨l, v', e, R, C, _, D⟩ := open_structs fdE Tryd.underlying42 fnd_cells (Good := fun f y => LblR w f ∧ FdD f y) (fun n cs y hy => by obtain ⟨f, e, r, q⟩ := in_fnd hy; exact ⟨f, e, r, q⟩) hf
  obtain rfl : v' = .slice a0 len0 cap0 := by simpa [Value.cells] using e.symm
  have hw := light_arg hsz ht hd
  refine ⟨l, R, C, D.len hw Tryd.underlying42 (of_decide_eq_true (by kernel_rfl)), fun f hf' => ?_⟩
  obtain ⟨y, ⟨⟨r1, r2, r3, rn⟩, dl, ys, rfl, e1, hD⟩, hy⟩ := D.each hw Tryd.underlying42 f hf'
  obtain ⟨g, hg, tg⟩ := fnd_field
  obtain ⟨s1, s2, s3⟩ := hD.lens lbl_und lbl_lists (light_field hy fnd_und hg tg e1)
  exact ⟨⟨r1, r2, r3, by omega, by omega, by omega⟩, rn⟩
end
end Go.Proofs.YtaopknddpagjeaaDoor
