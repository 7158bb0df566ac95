/- rack: choices that came in as arguments. -/
import Derived.Test.YtofhmdbilhdblaaRackRe
import Derived.Test.YtofhmdbilhdblaaStArgs
namespace Go.Proofs.Ytofhmdbilhdblaa
open Go.RowKit Go.ChangeShapes Go.WideShapes Go.Deep
set_option linter.unusedVariables false
set_option linter.unusedSimpArgs false
set_option maxRecDepth 100000

def asS : Value → Value
  | .slice a n c => .slice a n c
  | _ => .slice none 0 0
theorem asS_one (v : Value) : (asS v).oneCell' = true := by cases v <;> rfl
theorem asS_of {w : World} {v : Value} {xs : List Value} (h : Reads w v xs) : asS v = v := by
  rcases h with ⟨⟨a, c, rfl⟩, _⟩ | ⟨b, o, c, rfl, _⟩ <;> rfl
def cE : Enc (Value × List Int) := ⟨1, fun x => [asS x.1], by omega, fun _ => rfl, fun x u hu => by rw [List.mem_singleton.1 hu]; exact asS_one _⟩
theorem cE_all (l : List (Value × List Int)) : cE.all l = l.map fun x => asS x.1 := by
  induction l with
  | nil => rfl
  | cons x l ih => rw [cE.all_cons, ih]; rfl
/-- What a list of numbers is told as. -/
def IntsD {H : Type} (d : DataW H) (l : List Int) : Prop := d = .nil ∧ l = [] ∨ ∃ spare, d = .slice (l.map fun n => .lit (.int .i64 n)) spare
theorem rows_cells : Try.prog.cellsOf 31 = 1 := by kernel_rfl
theorem int_cells : Try.prog.cellsOf 3 = 1 := by kernel_rfl
section
variable {H : Type} {enc : TypeId × Value → H} {w : World} {base b0 : Nat} {held : Bool} {r : Reach} {ts : List TypeId} {ds : List (DataW H)}
theorem ints_in {n : Nat} {cs : List Value} {y : DataW H × List MemPlace} (h : DataW.trod enc Try.prog w base (fun _ => true) held n 31 cs = some y) :
    ∃ (q : Value) (l : List Int), cs = [q] ∧ Reads w q (l.map (.int .i64)) ∧ (∀ n ∈ l, In64 n) ∧ IntsD y.1 l := by
  rcases open_ints Try.underlying31 Try.underlying3 int_cells h with ⟨hcs, rfl⟩ | ⟨a, len, cap, ss, hcs, _, hl, hm, hz, rfl, hcell, hwf⟩
  · exact ⟨_, [], hcs, .inl ⟨⟨_, _, rfl⟩, rfl⟩, (fun n hn => by cases hn), .inl ⟨rfl, rfl⟩⟩
  · simp only [if_true] at hz
    refine ⟨_, ss.take len, hcs, ?_, fun n hn => hwf n (List.mem_of_mem_take hn), .inr ⟨_, rfl⟩⟩
    rcases Nat.eq_zero_or_pos len with rfl | hpos
    · exact .inl ⟨⟨_, _, rfl⟩, rfl⟩
    · have h0 := hcell 0 (by omega)
      obtain ⟨b, off, spot⟩ := a
      have hb : b < w.heap.size ∧ spot = none := by
        unfold World.cell? at h0
        have e1 : ((⟨b, off, spot⟩ : Addr).add 0).block = b := by unfold Addr.add; split <;> rfl
        rw [e1] at h0
        split at h0
        · rename_i c T0 F0 hb
          refine ⟨(Array.getElem?_eq_some_iff.1 hb).1, ?_⟩
          cases spot with
          | none => rfl
          | some s => simp [Addr.add] at h0
        · cases h0
      obtain ⟨hb, rfl⟩ := hb
      refine .inr ⟨b, off, cap, by simp; omega, hb, fun i hi => ?_⟩
      have hi' : i < len := by simp at hi; omega
      have := hcell i (by omega)
      rw [addr_at] at this
      rw [this]
      simp [List.getD_eq_getElem?_getD, List.getElem?_take, hi', show i < ss.length by omega]
theorem intsD_len {d : DataW H} {l : List Int} (h : IntsD d l) (hw : LightD Try.prog 31 d) : l.length ≤ 140737488351232 := by
  rcases h with ⟨_, rfl⟩ | ⟨spare, rfl⟩
  · simp
  · have h1 := light_len hw Try.underlying31 (of_decide_eq_true (by kernel_rfl))
    simpa using h1
/-- Choices in a cell. -/
theorem chs_pre {n : Nat} {q : Value} {y : DataW H × List MemPlace} (h : DataW.trod enc Try.prog w base (fun _ => true) held n 57 [q] = some y) :
    ∃ l : List (Value × List Int), asS q = q ∧ (LightD Try.prog 57 y.1 → ChR w q l ∧ l.length ≤ 140737488355328) := by
  haveI : Inhabited (Value × List Int) := ⟨(.slice none 0 0, [])⟩
  obtain ⟨l, v', e, R, ⟨a, c, hv', _⟩, _, D⟩ := open_structs cE Try.underlying57 rows_cells (Good := fun x y => Reads w x.1 (x.2.map (.int .i64)) ∧ (∀ n ∈ x.2, In64 n) ∧ IntsD y x.2) (fun n cs y hy => by
    obtain ⟨q, l, rfl, h2, h3, h4⟩ := ints_in hy
    exact ⟨(q, l), by show [q] = [asS q]; rw [asS_of h2], h2, h3, h4⟩) h
  obtain rfl : v' = q := by simpa using e.symm
  refine ⟨l, by rw [hv']; rfl, fun hw => ?_⟩
  have hall : ∀ x ∈ l, Reads w x.1 (x.2.map (.int .i64)) ∧ (∀ n ∈ x.2, In64 n) ∧ x.2.length ≤ 140737488355328 := fun x hx => by
    obtain ⟨y, ⟨h1, h2, h3⟩, h4⟩ := D.each hw Try.underlying57 x hx
    exact ⟨h1, h2, Nat.le_trans (intsD_len h3 h4) (by omega)⟩
  refine ⟨⟨?_, hall⟩, Nat.le_trans (D.len hw Try.underlying57 (of_decide_eq_true (by kernel_rfl))) (by omega)⟩
  have em : l.map Prod.fst = cE.all l := by
    rw [cE_all]
    exact List.map_congr_left fun x hx => (asS_of (hall x hx).1).symm
  rw [em]
  rcases R with ⟨h1, rfl⟩ | ⟨b, off, cap, rfl, h2, h3⟩
  · exact .inl ⟨h1, rfl⟩
  · have hle : (cE.all l).length = l.length := by rw [cE_all, List.length_map]
    refine .inr ⟨b, off, cap, by rw [hle], h2, fun i hi => h3 i _ ?_⟩
    rw [List.getD_eq_getElem?_getD, List.getElem?_eq_getElem hi]; rfl
theorem chs_in {n : Nat} {q : Value} {y : DataW H × List MemPlace} (h : DataW.trod enc Try.prog w base (fun _ => true) held n 57 [q] = some y) (hw : LightD Try.prog 57 y.1) :
    ∃ l : List (Value × List Int), ChR w q l ∧ l.length ≤ 140737488355328 := by
  obtain ⟨l, _, h2⟩ := chs_pre h
  exact ⟨l, h2 hw⟩
theorem open_chs {v : Value} {d : DataW H} {p : List MemPlace} (hv : Value.okWide Try.prog w r b0 57 v) (h : DataW.Trod enc Try.prog w base (fun _ => true) held 57 v d p) (hsz : (DataW.weightsEach Try.prog ts ds).all (· ≤ reachBytes) = true) {j : Nat} (ht : ts[j]? = some 57) (hd : ds[j]? = some d) :
    ∃ l : List (Value × List Int), ChR w v l ∧ l.length ≤ 140737488355328 := by
  obtain ⟨a0, len0, cap0, rfl⟩ := okWide_slice Try.underlying57 hv
  obtain ⟨fuel, hf⟩ := h
  exact chs_in (y := (d, p)) hf (light_arg hsz ht hd)
end
end Go.Proofs.Ytofhmdbilhdblaa

