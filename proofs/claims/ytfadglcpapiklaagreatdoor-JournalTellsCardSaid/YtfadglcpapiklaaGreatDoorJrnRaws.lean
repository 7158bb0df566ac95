/- Raw records in a row that came in. -/
import Derived.Test.YtfadglcpapiklaaGreatDoorJrnTN
import Derived.Test.YtfadglcpapiklaaGreatDoorLrecc
import Derived.Deep.Slices
import Derived.Deep.Grids
import Derived.SliceStrings
import Derived.ChangeSlices
import Derived.WideShapes
import Derived.SizedLaws
namespace Go.Proofs.YtfadglcpapiklaaGreatDoor
open Go.RowKit Go.ChangeShapes Go.WideShapes Go.Deep
open Rc
set_option linter.unusedVariables false
set_option linter.unusedSimpArgs false
set_option maxRecDepth 100000

instance : Inhabited RwA := ⟨⟨⟨0, 0, 0, 0, [], []⟩, .nilFunc, .nilFunc⟩⟩
def RwD {H : Type} (x : Raw) (d : DataW H) : Prop := ∃ (d2 d3 : DataW H) (ys : List (DataW H)), d = .agg ys ∧ ys[2]? = some d2 ∧ ys[3]? = some d3 ∧ NumsD d2 x.st ∧ NumsD d3 x.le
section
variable {H : Type} {enc : TypeId × Value → H} {w : World} {base b0 : Nat} {held : Bool} {r : Reach}
set_option maxRecDepth 100000 in
/-- A list of numbers in whatever cell. -/
theorem nums_in {n : Nat} {q : Value} {y : DataW H × List MemPlace} (h : DataW.trod enc Tryz.prog w base (fun _ => true) held n 24 [q] = some y) :
    ∃ l : List Int, Reads w q (l.map (.int .i64)) ∧ (∀ n ∈ l, I64 n) ∧ NumsD y.1 l := by
  rcases open_ints Tryz.underlying24 Tryz.underlying3 int_one h with ⟨hcs, rfl⟩ | ⟨a, len, cap, zs, hcs, _, hl, hm, hz, rfl, hcell, hwf⟩
  · obtain rfl : q = .slice none 0 0 := by simpa using hcs
    exact ⟨[], .inl ⟨⟨_, _, rfl⟩, rfl⟩, (fun n hn => by cases hn), .inl ⟨rfl, rfl⟩⟩
  · obtain rfl : q = .slice (some a) len cap := by simpa using hcs
    simp only [if_true] at hz
    refine ⟨zs.take len, ?_, fun n hn => wf_rng (hwf n (List.mem_of_mem_take hn)), .inr ⟨_, rfl⟩⟩
    rcases Nat.eq_zero_or_pos len with rfl | hpos
    · exact .inl ⟨⟨_, _, rfl⟩, rfl⟩
    · have h0 := hcell 0 (by omega)
      obtain ⟨b, off, spot⟩ := a
      have hb : b < w.heap.size ∧ spot = none := by
        unfold World.cell? at h0
        have e1 : ((⟨b, off, spot⟩ : Addr).add 0).block = b := by unfold Addr.add; split <;> rfl
        rw [e1] at h0
        split at h0
        · rename_i c T0 F0 hb
          refine ⟨(Array.getElem?_eq_some_iff.1 hb).1, ?_⟩
          cases spot with
          | none => rfl
          | some s => simp [Addr.add] at h0
        · cases h0
      obtain ⟨hb, rfl⟩ := hb
      refine .inr ⟨b, off, cap, by simp; omega, hb, fun i hi => ?_⟩
      have hi' : i < len := by simp at hi; omega
      have := hcell i (by omega)
      rw [addr_at] at this
      rw [this]
      simp [List.getD_eq_getElem?_getD, List.getElem?_take, hi', show i < zs.length by omega]
set_option maxRecDepth 100000 in
theorem in_raw11 {fuel : Nat} {cs : List Value} {d : DataW H × List MemPlace} (h : DataW.trod enc Tryz.prog w base (fun _ => true) held fuel 26 cs = some d) :
    ∃ f : RwA, cs = rwE.f f ∧ (Reads w f.va (f.r.st.map (.int .i64)) ∧ Reads w f.vb (f.r.le.map (.int .i64)) ∧ NumsR f.r) ∧ RwD f.r d.1 := by
  obtain ⟨ys, n, _, hx, hl, hn, hg⟩ := DataW.trod_struct raw_und h
  rw [raw_cells] at hl
  rw [raw_size] at hn
  match cs, hl with
  | [q0, q1, q2, q3, q4, q5], _ =>
  match ys, hn with
  | [y0, y1, y2, y3], _ =>
    have g0 : DataW.trod enc Tryz.prog w base (fun _ => true) held n 23 (([q0, q1, q2, q3, q4, q5].drop 0).take (Tryz.prog.cellsOf 23)) = some y0 := hg 0 _ rfl
    have g1 : DataW.trod enc Tryz.prog w base (fun _ => true) held n 3 (([q0, q1, q2, q3, q4, q5].drop 3).take (Tryz.prog.cellsOf 3)) = some y1 := hg 1 _ rfl
    have g2 : DataW.trod enc Tryz.prog w base (fun _ => true) held n 24 (([q0, q1, q2, q3, q4, q5].drop 4).take (Tryz.prog.cellsOf 24)) = some y2 := hg 2 _ rfl
    have g3 : DataW.trod enc Tryz.prog w base (fun _ => true) held n 24 (([q0, q1, q2, q3, q4, q5].drop 5).take (Tryz.prog.cellsOf 24)) = some y3 := hg 3 _ rfl
    rw [geo_three] at g0
    rw [int_one] at g1
    rw [ints_one] at g2 g3
    obtain ⟨a0, a1, a2, rfl, rfl, rfl, r0, r1, r2⟩ := geo_parts g0
    obtain ⟨a3, rfl, _, r3⟩ := field_int Tryz.underlying3 g1
    obtain ⟨l4, R4, I4, D4⟩ := nums_in g2
    obtain ⟨l5, R5, I5, D5⟩ := nums_in g3
    refine ⟨⟨⟨a0, a1, a2, a3, l4, l5⟩, q4, q5⟩, ?_, ⟨R4, R5, ⟨r0, r1, r2, r3, I4, I5⟩⟩, ⟨y2.1, y3.1, _, by rw [hx], rfl, rfl, D4, D5⟩⟩
    have e4 := cell1_of R4
    have e5 := cell1_of R5
    simp only [rwE, e4, e5]
set_option maxRecDepth 100000 in
theorem numsD_len {d : DataW H} {l : List Int} (h : NumsD d l) (hw : LightD Tryz.prog 24 d) : l.length ≤ 140737488351232 := by
  rcases h with ⟨_, rfl⟩ | ⟨spare, rfl⟩
  · simp
  · have := light_len hw Tryz.underlying24 (by rw [int_eight]; decide)
    simpa using this
set_option maxRecDepth 100000 in
theorem open_raws11 {ts : List TypeId} {ds : List (DataW H)} {v : Value} {d : DataW H} {p : List MemPlace} (hv : Value.okWide Tryz.prog w r b0 66 v) (h : DataW.Trod enc Tryz.prog w base (fun _ => true) held 66 v d p) (hsz : (DataW.weightsEach Tryz.prog ts ds).all (· ≤ reachBytes) = true) {j : Nat} (ht : ts[j]? = some 66) (hd : ds[j]? = some d) :
    ∃ l : List RwA, ReadsE rwE w v l ∧ (∀ f ∈ l, RwOk w f) ∧ l.length ≤ 140737488351232 := by
  obtain ⟨fuel, hf⟩ := h
  obtain ⟨a0, len0, cap0, rfl⟩ := okWide_slice Tryz.underlying66 hv
  obtain ⟨l, v', e, R, C, _, D⟩ := open_structs rwE Tryz.underlying66 raw_cells (Good := fun f y => (Reads w f.va (f.r.st.map (.int .i64)) ∧ Reads w f.vb (f.r.le.map (.int .i64)) ∧ NumsR f.r) ∧ RwD f.r y) (fun n cs y hy => in_raw11 hy) hf
  obtain rfl : v' = .slice a0 len0 cap0 := by simpa [Value.cells] using e.symm
  have hw := light_arg hsz ht hd
  refine ⟨l, R, fun f hf' => ?_, D.len hw Tryz.underlying66 (of_decide_eq_true (by kernel_rfl))⟩
  obtain ⟨y, ⟨⟨r1, r2, N⟩, d2, d3, ys, rfl, e2, e3, k2, k3⟩, hy⟩ := D.each hw Tryz.underlying66 f hf'
  have hf2 : ∃ f, (Tryz.prog.fieldsOf 26)[2]? = some f ∧ f.type = 24 := ⟨_, rfl, rfl⟩
  have hf3 : ∃ f, (Tryz.prog.fieldsOf 26)[3]? = some f ∧ f.type = 24 := ⟨_, rfl, rfl⟩
  obtain ⟨g2, h2, t2⟩ := hf2
  obtain ⟨g3, h3, t3⟩ := hf3
  have s2 := numsD_len k2 (light_field hy raw_und h2 t2 e2)
  have s3 := numsD_len k3 (light_field hy raw_und h3 t3 e3)
  exact ⟨⟨N.k, N.m, N.b, N.q, N.st, N.le, by omega, by omega⟩, r1, r2⟩
end
end Go.Proofs.YtfadglcpapiklaaGreatDoor
