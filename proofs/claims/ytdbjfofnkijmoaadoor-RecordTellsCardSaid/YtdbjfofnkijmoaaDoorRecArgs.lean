/- record: records that came in as arguments. -/
import Derived.Test.YtdbjfofnkijmoaaDoorRecBase
import Derived.Test.YtdbjfofnkijmoaaDoorStArgs
import Derived.Deep.Slices
namespace Go.Proofs.YtdbjfofnkijmoaaDoor
open Go.RowKit Go.ChangeShapes Go.WideShapes Go.Deep
set_option linter.unusedVariables false
set_option linter.unusedSimpArgs false

def TextsD {H : Type} (d : DataW H) (l : List ByteArray) : Prop := d = .nil ∧ l = [] ∨ ∃ spare, d = .slice (l.map fun s => .lit (.string s.data.toList)) spare
def StpD {H : Type} (s : St) (d : DataW H) : Prop := ∃ dn dd : DataW H, d = .agg [dn, dd] ∧ TextsD dd s.d
theorem stp_und : Tryd.prog.underlying 52 = some (.struct (Tryd.prog.fieldsOf 52)) := by kernel_rfl
theorem stp_cells : Tryd.prog.cellsOf 52 = 2 := by kernel_rfl
theorem stp_size : (Tryd.prog.fieldsOf 52).size = 2 := by kernel_rfl
theorem rec_und : Tryd.prog.underlying 26 = some (.struct (Tryd.prog.fieldsOf 26)) := by kernel_rfl
theorem rec_cells : Tryd.prog.cellsOf 26 = 2 := by kernel_rfl
theorem rec_size : (Tryd.prog.fieldsOf 26).size = 2 := by kernel_rfl
theorem int_one : Tryd.prog.cellsOf 3 = 1 := by kernel_rfl
theorem str_one : Tryd.prog.cellsOf 9 = 1 := by kernel_rfl
theorem strs_one : Tryd.prog.cellsOf 27 = 1 := by kernel_rfl
theorem stps_one : Tryd.prog.cellsOf 24 = 1 := by kernel_rfl
section
variable {H : Type} {enc : TypeId × Value → H} {w : World} {base b0 : Nat} {held : Bool} {r : Reach}
set_option maxRecDepth 100000 in
theorem texts_in {n : Nat} {q : Value} {y : DataW H × List MemPlace} (h : DataW.trod enc Tryd.prog w base (fun _ => true) held n 27 [q] = some y) :
    ∃ l : List ByteArray, Reads w q (l.map .string) ∧ TextsD y.1 l := by
  rcases open_strings Tryd.underlying27 Tryd.underlying9 str_one h with ⟨hcs, rfl⟩ | ⟨a, len, cap, ss, hcs, _, hl, hm, hz, rfl, hcell, _⟩
  · obtain rfl : q = .slice none 0 0 := by simpa using hcs
    exact ⟨[], .inl ⟨⟨_, _, rfl⟩, rfl⟩, .inl ⟨rfl, rfl⟩⟩
  · obtain rfl : q = .slice (some a) len cap := by simpa using hcs
    simp only [if_true] at hz
    refine ⟨ss.take len, ?_, .inr ⟨_, rfl⟩⟩
    rcases Nat.eq_zero_or_pos len with rfl | hpos
    · exact .inl ⟨⟨_, _, rfl⟩, rfl⟩
    · have h0 := hcell 0 (by omega)
      obtain ⟨b, off, spot⟩ := a
      have hb : b < w.heap.size ∧ spot = none := by
        unfold World.cell? at h0
        have e1 : ((⟨b, off, spot⟩ : Addr).add 0).block = b := by unfold Addr.add; split <;> rfl
        rw [e1] at h0
        split at h0
        · rename_i c T0 F0 hb
          refine ⟨(Array.getElem?_eq_some_iff.1 hb).1, ?_⟩
          cases spot with
          | none => rfl
          | some s => simp [Addr.add] at h0
        · cases h0
      obtain ⟨hb, rfl⟩ := hb
      refine .inr ⟨b, off, cap, by simp; omega, hb, fun i hi => ?_⟩
      have hi' : i < len := by simp at hi; omega
      have := hcell i (by omega)
      rw [addr_at] at this
      rw [this]
      simp [List.getD_eq_getElem?_getD, List.getElem?_take, hi', show i < ss.length by omega]
set_option maxRecDepth 100000 in
theorem in_stp {fuel : Nat} {cs : List Value} {d : DataW H × List MemPlace} (h : DataW.trod enc Tryd.prog w base (fun _ => true) held fuel 52 cs = some d) :
    ∃ s : St, cs = stE.f s ∧ Reads w s.v (s.d.map .string) ∧ StpD s d.1 := by
  obtain ⟨ys, n, _, hx, hl, hn, hg⟩ := DataW.trod_struct stp_und h
  rw [stp_cells] at hl
  rw [stp_size] at hn
  match cs, hl with
  | [q0, q1], _ =>
  match ys, hn with
  | [y0, y1], _ =>
    have g0 : DataW.trod enc Tryd.prog w base (fun _ => true) held n 3 (([q0, q1].drop 0).take (Tryd.prog.cellsOf 3)) = some y0 := hg 0 _ rfl
    have g1 : DataW.trod enc Tryd.prog w base (fun _ => true) held n 27 (([q0, q1].drop 1).take (Tryd.prog.cellsOf 27)) = some y1 := hg 1 _ rfl
    rw [int_one] at g0
    rw [strs_one] at g1
    obtain ⟨a0, rfl, _, _⟩ := field_int Tryd.underlying3 g0
    obtain ⟨l, R, D⟩ := texts_in g1
    refine ⟨⟨a0, l, q1⟩, ?_, R, ⟨y0.1, y1.1, by rw [hx]; rfl, D⟩⟩
    have e := cell1_of R
    simp only [stE, e]
end
section
variable {H : Type}
theorem textsD_len {d : DataW H} {l : List ByteArray} (h : TextsD d l) (hw : LightD Tryd.prog 27 d) : l.length ≤ 140737488351232 ∧ ∀ t ∈ l, t.size ≤ 140737488351232 := by
  rcases h with ⟨_, rfl⟩ | ⟨spare, rfl⟩
  · exact ⟨by simp, fun t ht => by cases ht⟩
  · have h1 := light_len hw Tryd.underlying27 (of_decide_eq_true (by kernel_rfl))
    refine ⟨by simpa using h1, fun t ht => ?_⟩
    have h2 := light_at hw Tryd.underlying27 (d := .lit (.string t.data.toList)) (List.mem_map.2 ⟨t, ht, rfl⟩) t.data.toList.length (by simp [DataW.weights])
    simpa [reachBytes] using h2
set_option maxRecDepth 100000 in
theorem stp_fields : (∃ f, (Tryd.prog.fieldsOf 52)[1]? = some f ∧ f.type = 27) ∧ ∃ f, (Tryd.prog.fieldsOf 26)[1]? = some f ∧ f.type = 24 := ⟨⟨_, rfl, rfl⟩, ⟨_, rfl, rfl⟩⟩
end
section
variable {H : Type} {enc : TypeId × Value → H} {w : World} {base b0 : Nat} {held : Bool} {r : Reach} {ts : List TypeId} {ds : List (DataW H)}
set_option maxRecDepth 100000 in
/-- A record that came in. -/
theorem open_rec {v : Value} {d : DataW H} {p : List MemPlace} (hv : Value.okWide Tryd.prog w r b0 26 v) (h : DataW.Trod enc Tryd.prog w base (fun _ => true) held 26 v d p) (hsz : (DataW.weightsEach Tryd.prog ts ds).all (· ≤ reachBytes) = true) {j : Nat} (ht : ts[j]? = some 26) (hd : ds[j]? = some d) :
    ∃ (q : Int) (u : Value) (l : List St), v = .agg #[.int .i64 q, u] ∧ SReads w u l ∧ l.length ≤ 140737488351232 ∧ -9223372036854775808 ≤ q ∧ q ≤ 9223372036854775807 := by
  obtain ⟨cs, rfl, hcz⟩ := okWide_struct rec_und hv
  obtain ⟨fuel, hf⟩ := h
  obtain ⟨ys, n, _, hx, hl, hn, hg⟩ := DataW.trod_struct rec_und hf
  rw [rec_cells] at hl
  rw [rec_size] at hn
  obtain ⟨cl⟩ := cs
  simp only [Value.cells] at hl hg
  match cl, hl with
  | [q0, q1], _ =>
  match ys, hn with
  | [y0, y1], _ =>
    have g0 : DataW.trod enc Tryd.prog w base (fun _ => true) held n 3 (([q0, q1].drop 0).take (Tryd.prog.cellsOf 3)) = some y0 := hg 0 _ rfl
    have g1 : DataW.trod enc Tryd.prog w base (fun _ => true) held n 24 (([q0, q1].drop 1).take (Tryd.prog.cellsOf 24)) = some y1 := hg 1 _ rfl
    rw [int_one] at g0
    rw [stps_one] at g1
    obtain ⟨a0, rfl, _, ra, rb⟩ := field_int Tryd.underlying3 g0
    obtain ⟨l, v', e, R, C, _, D⟩ := open_structs stE Tryd.underlying24 stp_cells (Good := fun s y => Reads w s.v (s.d.map .string) ∧ StpD s y) (fun n cs y hy => in_stp hy) g1
    obtain rfl : v' = q1 := by simpa using e.symm
    simp only [Prod.mk.injEq] at hx
    have hw := light_arg hsz ht hd
    rw [hx.1] at hw
    obtain ⟨⟨f1, hf1, t1⟩, ⟨f2, hf2, t2⟩⟩ := stp_fields
    have hw1 := light_field hw rec_und hf2 t2 (i := 1) rfl
    refine ⟨a0, v', l, rfl, SReads.of R fun s hs => ?_, D.len hw1 Tryd.underlying24 (of_decide_eq_true (by kernel_rfl)), ra, rb⟩
    obtain ⟨y, ⟨hr, dn, dd, rfl, hT⟩, hy⟩ := D.each hw1 Tryd.underlying24 s hs
    obtain ⟨l1, l2⟩ := textsD_len hT (light_field hy stp_und hf1 t1 (i := 1) rfl)
    exact ⟨hr, by omega, fun t ht => by have := l2 t ht; omega⟩
end
end Go.Proofs.YtdbjfofnkijmoaaDoor
