/- trie: a node's text; a block is put. -/
import Derived.Test.YtlbjfigdocbffaaTriRead
import Derived.Shelf.Spec.SlicesInsert
import Derived.Laws.CopyRow
import Derived.Deep.Cut
import Derived.Shelf.RegionOpenPlain
namespace Go.Proofs.Ytlbjfigdocbffaa
open Go.RowKit
set_option linter.unusedVariables false
set_option linter.unusedSimpArgs false

theorem u8_info : (Try.prog.info? 5).map (·.size) = some 1 := by kernel_rfl
theorem nd_head {e : Nat → Nat} (h : ∀ i, i < 16 → e i ≤ 255) : ndL e ++ (tcL zero120).drop 16 = tcL (ntext e) := by
  apply List.ext_getElem?
  intro k
  by_cases hk : k < 120
  · rw [tcL_ntext h hk]
    by_cases h2 : k < 16
    · rw [List.getElem?_append_left (by rw [ndL_len]; exact h2), ndL_get e k h2, if_pos h2]
    · rw [List.getElem?_append_right (by rw [ndL_len]; omega), ndL_len, List.getElem?_drop, if_neg h2, tcL_get _ _ (by omega), show 16 + (k - 16) = k by omega]
      have : zero120.data.toList = List.replicate 120 0 := rfl
      rw [this, List.getD_eq_getElem?_getD, List.getElem?_replicate, if_pos hk]; rfl
  · rw [List.getElem?_eq_none (by simp [ndL_len, tcL_len]; omega), List.getElem?_eq_none (by rw [tcL_len]; omega)]
set_option maxRecDepth 100000 in
set_option maxHeartbeats 1000000 in
/-- A node's text. -/
theorem text_any (e : Nat → Nat) (he : ∀ i, i < 16 → e i ≤ 255) (w : World) : Calls Try.prog 54 #[.agg (ndL e).toArray] w fun x w' => x = .returned (.string (ntext e)) ∧ Below w.heap.size w w' := by
  obtain ⟨w1, hw1⟩ : ∃ w1, w1 = w.alloc (.cells (ndL e).toArray 91) := ⟨_, rfl⟩
  have b1 : Below w.heap.size w w1 := by rw [hw1]; exact (Below.refl _ _).alloc (Nat.le_refl _) _
  have s1 : w1.heap.size = w.heap.size + 1 := by rw [hw1]; simp
  have n1 : w1.heap[w.heap.size]? = some (.cells (ndL e).toArray 91 (0, 0)) := by rw [hw1]; exact heap_alloc_new _ _
  obtain ⟨w2, hw2⟩ : ∃ w2, w2 = w1.alloc (.cells (tcL zero120).toArray 80) := ⟨_, rfl⟩
  have b2 : Below w1.heap.size w1 w2 := by rw [hw2]; exact (Below.refl _ _).alloc (Nat.le_refl _) _
  have n2 : w2.heap[w1.heap.size]? = some (.cells (tcL zero120).toArray 80 (0, 0)) := by rw [hw2]; exact heap_alloc_new _ _
  have m2 : w2.heap[w.heap.size]? = some (.cells (ndL e).toArray 91 (0, 0)) := by rw [b2.block _ (by omega)]; exact n1
  have hcp := run_copy_row (P := Try.prog) w2.drew 86 86 3 5 w1.heap.size 0 120 120 ⟨w.heap.size, 0, none⟩ 16 16 (tcL zero120).toArray 80 (ndL e) Try.underlying86 u8_info n2 (by rw [ndL_len]; rfl)
    (fun j v hj => by
      rw [addr_at, Nat.zero_add]
      have : w2.drew.heap[w.heap.size]? = some (.cells (ndL e).toArray 91 (0, 0)) := m2
      simp only [World.cell?, this]
      simpa using hj) (by rw [ndL_len]; simp [tcL_len]) (ndL_one e)
  have hrow : ((tcL zero120).toArray.toList.take 0 ++ ndL e ++ (tcL zero120).toArray.toList.drop (0 + (ndL e).length)) = tcL (ntext e) := by
    rw [← nd_head he, ndL_len]; simp
  rw [hrow, ndL_len] at hcp
  obtain ⟨w3, hw3⟩ : ∃ w3, w3 = w2.drew.setRow w1.heap.size (tcL (ntext e)).toArray := ⟨_, rfl⟩
  rw [← hw3] at hcp
  have n3 : w3.heap[w1.heap.size]? = some (.cells (tcL (ntext e)).toArray 80 (0, 0)) := by rw [hw3]; exact setRow_heap w2.drew _ _ _ _ _ n2
  have hstr := tc_str (w := w3) (b := w1.heap.size) (ntext e) (ntext_size e) (fun j hj => by simp [World.cell?, n3])
  have b3 : Below w.heap.size w w3 := by
    rw [hw3]; exact below_setRow ((b1.trans (b2.mono (by omega))).drew) (by omega) _
  have hs1 : ∀ W : World, (Instr.sliceAt 80 (.pointer (some ⟨w1.heap.size, 0, none⟩)) none none none).run Try.prog W = .ok (.slice (some ⟨w1.heap.size, 0, none⟩) 120 120) W := fun W => by
    simp [Instr.sliceAt, Instr.slice, Instr.sureAddr, run_underlying tc_under, Instr.sliceBounds, Instr.sliceBound, asIntOf, asAddr]
    exact addr_at _ _ _
  have hs2 : ∀ W : World, (Instr.sliceAt 91 (.pointer (some ⟨w.heap.size, 0, none⟩)) none none none).run Try.prog W = .ok (.slice (some ⟨w.heap.size, 0, none⟩) 16 16) W := fun W => by
    simp [Instr.sliceAt, Instr.slice, Instr.sureAddr, run_underlying nd_under, Instr.sliceBounds, Instr.sliceBound, asIntOf, asAddr]
    exact addr_at _ _ _
  have hz : Try.zeroCells80 = (tcL zero120).toArray := by kernel_rfl
  clear n1 n2 m2 n3 hrow hw3 b1 b2
  generalize tcL zero120 = z0 at *
  generalize ndL e = es at *
  generalize ntext e = t at *
  rw [s1] at *
  clear s1
  go_enter Try.func54, Try.ntmps54
  go_upto_region 2 with (fail)
  rw [← hw1, ← hw2]
  clear hw1 hw2 hz
  have hmix : Try.prog.follows .mixedOrders = true := by kernel_rfl
  go_region_law_o (refine step_copy_runI rfl _ _ 86 86 rfl _ _ (by simp [Act.eval, Act.put]) (by simp [Act.eval, Act.put]) hcp ?_)
  go_wp2
  go_ret
  exact ⟨rfl, b3⟩
end Go.Proofs.Ytlbjfigdocbffaa
