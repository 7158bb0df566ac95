/- Numbers and texts by turns: laid and read back. -/
import Derived.Test.YtkjpdpjogcifoaaDoorPackLaw2
import Derived.Test.YtkjpdpjogcifoaaDoorSl2
namespace Go.Proofs.YtkjpdpjogcifoaaDoor
open Go.RowKit
set_option linter.unusedVariables false
set_option linter.unusedSimpArgs false

theorem Tryd.infoI : (Tryd.prog.info? 3).map (fun i => (i.zero, i.size, i.bytes)) = some (some (.int .i64 0), 1, 8) := by kernel_rfl
theorem Tryd.infoS : (Tryd.prog.info? 9).map (fun i => (i.zero, i.size, i.bytes)) = some (some (.string ⟨#[]⟩), 1, 16) := by kernel_rfl
def chunk (x : Nat × Nat × ByteArray) : List UInt8 := Pk.be x.2.1 x.1 ++ x.2.2.data.toList
def flat (L : List (Nat × Nat × ByteArray)) : List UInt8 := L.flatMap chunk
structure GoodI (x : Nat × Nat × ByteArray) : Prop where
  w1 : 1 ≤ x.2.1
  w2 : x.2.1 ≤ 7
  n : x.1 < 256 ^ x.2.1
  t : x.2.2.size ≤ 20
theorem flat_snoc (L : List (Nat × Nat × ByteArray)) (x : Nat × Nat × ByteArray) : flat (L ++ [x]) = flat L ++ chunk x := by simp [flat]
theorem flat_len : ∀ (L : List (Nat × Nat × ByteArray)), (∀ x ∈ L, GoodI x) → (flat L).length ≤ 27 * L.length
  | [], _ => by simp [flat]
  | x :: L, h => by
    have ih := flat_len L (fun y hy => h y (List.mem_cons_of_mem _ hy))
    have hx := h x List.mem_cons_self
    have e : (flat (x :: L)).length = x.2.1 + x.2.2.size + (flat L).length := by
      simp [flat, chunk, Pk.be_length]; omega
    rw [e, List.length_cons]
    have := hx.w2
    have := hx.t
    omega
def remB (L : List (Nat × Nat × ByteArray)) (z j : Nat) : ByteArray := lineOf (flat (L.drop j) ++ List.replicate z 0)
def midB (L : List (Nat × Nat × ByteArray)) (z j : Nat) (t : ByteArray) : ByteArray := lineOf (t.data.toList ++ (flat (L.drop (j + 1)) ++ List.replicate z 0))
theorem rem_list {L : List (Nat × Nat × ByteArray)} (z : Nat) {j : Nat} (h : j < L.length) : (remB L z j).data.toList = Pk.be (L[j]).2.1 (L[j]).1 ++ ((L[j]).2.2.data.toList ++ (flat (L.drop (j + 1)) ++ List.replicate z 0)) := by
  rw [remB, list_lineOf, List.drop_eq_getElem_cons h, flat, List.flatMap_cons, chunk, List.append_assoc, List.append_assoc]
  rfl
theorem size_list (s : ByteArray) : s.size = s.data.toList.length := by simp
theorem rem_num {L : List (Nat × Nat × ByteArray)} (z : Nat) {j : Nat} (h : j < L.length) (hg : GoodI L[j]) :
    okN (remB L z j) false ((L[j]).2.1 : Int) = true ∧ numV (remB L z j) false ((L[j]).2.1 : Int) = (L[j]).1 ∧ numR (remB L z j) false ((L[j]).2.1 : Int) = midB L z j (L[j]).2.2 := by
  have hl := rem_list z h
  have hs : (remB L z j).size = (L[j]).2.1 + ((L[j]).2.2.data.toList ++ (flat (L.drop (j + 1)) ++ List.replicate z 0)).length := by rw [size_list, hl, List.length_append, Pk.be_length]
  have hb : okN (remB L z j) false ((L[j]).2.1 : Int) = true := by
    have := hg.w1
    have := hg.w2
    unfold okN; rw [decide_eq_true (by omega)]; rfl
  refine ⟨hb, ?_, ?_⟩
  · rw [numV, if_pos hb, ext_list, Int.toNat_natCast, List.drop_zero, hl, List.take_left' (Pk.be_length _ _), Pk.val_be_lt hg.n]
  · rw [numR, if_pos hb]
    apply Go.WideShapes.bytes_inj
    rw [ext_list, Int.toNat_natCast, List.take_of_length_le (by rw [← size_list]; exact Nat.le_refl _), hl, List.drop_left' (Pk.be_length _ _), midB, list_lineOf]
theorem mid_txt (L : List (Nat × Nat × ByteArray)) (z j : Nat) (t : ByteArray) :
    okT (midB L z j t) false (t.size : Int) = true ∧ txtS (midB L z j t) false (t.size : Int) = t ∧ txtR (midB L z j t) false (t.size : Int) = remB L z (j + 1) := by
  have hl : (midB L z j t).data.toList = t.data.toList ++ (flat (L.drop (j + 1)) ++ List.replicate z 0) := by rw [midB, list_lineOf]
  have hs : (midB L z j t).size = t.size + (flat (L.drop (j + 1)) ++ List.replicate z 0).length := by rw [size_list, hl, List.length_append, ← size_list]
  obtain ⟨o1, o2, o3⟩ := txt_good (midB L z j t) (n := t.size) (by omega)
  refine ⟨o1, ?_, ?_⟩
  · rw [o2]
    apply Go.WideShapes.bytes_inj
    rw [ext_list, List.drop_zero, hl, List.take_left' (by simp)]
  · rw [o3]
    apply Go.WideShapes.bytes_inj
    rw [ext_list, List.take_of_length_le (by rw [← size_list]; exact Nat.le_refl _), hl, List.drop_left' (by simp), remB, list_lineOf]
theorem rem_end (L : List (Nat × Nat × ByteArray)) (z : Nat) : zeroB (remB L z L.length) = true := by
  unfold zeroB
  rw [remB, list_lineOf, List.drop_length]
  simp [flat]
theorem rem_start (L : List (Nat × Nat × ByteArray)) (z : Nat) : padB (lineOf (flat L)) ((lineOf (flat L)).size + z) = remB L z 0 := by
  rw [padB, remB, List.drop_zero, Pk.padL, list_lineOf, lineOf_size, show (flat L).length + z - (flat L).length = z by omega]
theorem rem_size (L : List (Nat × Nat × ByteArray)) (z j : Nat) (h : ∀ x ∈ L, GoodI x) (hl : L.length ≤ 40) (hz : z ≤ 50) : (remB L z j).size ≤ 2000 := by
  have := flat_len (L.drop j) (fun x hx => h x (List.mem_of_mem_drop hx))
  rw [List.length_drop] at this
  rw [remB, lineOf_size, List.length_append, List.length_replicate]
  omega
theorem mid_size (L : List (Nat × Nat × ByteArray)) (z j : Nat) (t : ByteArray) (h : ∀ x ∈ L, GoodI x) (hl : L.length ≤ 40) (hz : z ≤ 50) (ht : t.size ≤ 20) : (midB L z j t).size ≤ 3000 := by
  have := flat_len (L.drop (j + 1)) (fun x hx => h x (List.mem_of_mem_drop hx))
  rw [List.length_drop] at this
  rw [midB, lineOf_size, List.length_append, List.length_append, List.length_replicate, ← size_list]
  omega
def vx (L : List (Nat × Nat × ByteArray)) : List Value := L.map fun x => .int .i64 ((x.1 : Nat) : Int)
def vw (L : List (Nat × Nat × ByteArray)) : List Value := L.map fun x => .int .i64 ((x.2.1 : Nat) : Int)
def vt (L : List (Nat × Nat × ByteArray)) : List Value := L.map fun x => .string x.2.2
/-- A list as it lies. -/
theorem Reads.vals {α : Type} {w : World} {v : Value} {L : List α} {f : α → Value} (h : Reads w v (L.map f)) : ∃ a cap, v = .slice a L.length cap ∧ ∀ i (hi : i < L.length), ∃ cb co, a = some ⟨cb, co, none⟩ ∧ cb < w.heap.size ∧ w.cell? ⟨cb, co + i, none⟩ = some (f L[i]) := by
  rcases h with ⟨rfl, e⟩ | ⟨b, off, cap, rfl, h1, h2⟩
  · have : L = [] := by simpa using e
    subst this
    exact ⟨none, 0, rfl, fun i hi => by simp at hi⟩
  · refine ⟨some ⟨b, off, none⟩, cap, by rw [List.length_map], fun i hi => ⟨b, off, rfl, h1, ?_⟩⟩
    rw [h2 i (by rw [List.length_map]; exact hi)]
    simp [List.getD_eq_getElem?_getD, hi]
theorem good_snoc {L : List (Nat × Nat × ByteArray)} {x : Nat × Nat × ByteArray} (h : ∀ y ∈ L, GoodI y) (hx : GoodI x) : ∀ y ∈ L ++ [x], GoodI y := fun y hy => by
  rcases List.mem_append.1 hy with hy | hy
  · exact h y hy
  · rw [List.mem_singleton] at hy; rw [hy]; exact hx
end Go.Proofs.YtkjpdpjogcifoaaDoor
