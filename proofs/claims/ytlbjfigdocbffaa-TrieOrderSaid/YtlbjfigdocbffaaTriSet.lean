/- trie: one level of set. -/
import Derived.Test.YtlbjfigdocbffaaTriRest
namespace Go.Proofs.Ytlbjfigdocbffaa
open Go.RowKit
set_option linter.unusedVariables false
set_option linter.unusedSimpArgs false

section
variable {w w' w1 : World} {h g m n : Nat} {u : Value} {C C1 C2 C3 : Nat → Nat} {Z Z1 Z2 Z3 : Int → Bool} {X X1 X2 X3 : Nat → ByteArray} {v : Value} {x : Ending}
set_option maxRecDepth 100000 in
set_option maxHeartbeats 2000000 in
theorem set_step (H : Hp w h g m n u C Z X) (b p o o' k i t kid block : Nat) (e : Nat → Nat) (hi : i < 16) (he : e i ≤ 255) (hpw : p < w.heap.size) (hpg : p ≠ g) (hpm : p ≠ m) (hp : w.cell? ⟨p, o, none⟩ = some (.int .i64 (i : Int))) (ho : o' = if k = 0 then o else o + 1)
    (hreach : ∀ W, Hp W h g m n u C Z X → Calls Try.prog 55 #[.pointer (some ⟨h, 0, none⟩), .int .i64 (b : Int)] W (HpG W h g m n u C1 Z1 X1 (.tuple #[.int .i64 (t : Int), .agg (ndL e).toArray, .int .i64 0])))
    (hsub : ∀ W, Hp W h g m n u C1 Z1 X1 → HTo w g m W → Calls Try.prog 44 #[.pointer (some ⟨h, 0, none⟩), .int .i64 ((e i : Nat) : Int), restV p o' k, .int .i64 (block : Int)] W (HpG W h g m n u C2 Z2 X2 (.tuple #[.int .i64 (kid : Int), .int .i64 0])))
    (hent : ∀ W, Hp W h g m n u C2 Z2 X2 → Calls Try.prog 56 #[.pointer (some ⟨h, 0, none⟩), .int .i64 (t : Int), .agg (ndL e).toArray, .int .i64 (i : Int), .int .i64 (kid : Int)] W (HpG W h g m n u C3 Z3 X3 (.tuple #[.int .i64 (t : Int), .int .i64 0]))) :
    Calls Try.prog 44 #[.pointer (some ⟨h, 0, none⟩), .int .i64 (b : Int), restV p o (k + 1), .int .i64 (block : Int)] w (HpG w h g m n u C3 Z3 X3 (.tuple #[.int .i64 (t : Int), .int .i64 0])) := by
  have hsl := rest_slice p o k
  rw [← ho] at hsl
  clear ho
  have hwr : IntKind.i64.wrap ((e i : Nat) : Int) = ((e i : Nat) : Int) := by simp [IntKind.wrap, IntKind.signed, IntKind.bits]; omega
  have cr := hreach w H
  have t1 : (i : Int) < 16 := by omega
  have t2 : ¬ ((k : Int) + 1 = 0) := by omega
  have t3 : (((k : Int) + 1) == 0) = false := by rw [beq_eq_false_iff_ne]; omega
  have t4 : (0 : Int) < (k : Int) + 1 := by omega
  have HSUB := Lib.hid hsub
  have HENT := Lib.hid hent
  have HP := Lib.hid hp
  have HPW := Lib.hid hpw
  have hpw0 := hpw
  have hgl := Lib.hid (H.lts g (.inr (.inl rfl)))
  have hml := Lib.hid (H.lts m (.inr (.inr (.inl rfl))))
  have hpg' := Lib.hid hpg
  have hpm' := Lib.hid hpm
  clear hreach hsub hent H hpw hpg hpm hp
  unfold restV at *
  go_enter Try.func44, Try.ntmps44
  go_wp2_with (fail)
  refine cr.mono ?_
  rintro x w2 ⟨rfl, T2, H2⟩
  obtain ⟨g3, hg3⟩ : ∃ g3, w2.heap.size = g3 := ⟨_, rfl⟩
  have hst : (storeCells ⟨g3, 0, none⟩ (ndL e) 0).run Try.prog (w2.alloc (.cells #[.int .u8 0, .int .u8 0, .int .u8 0, .int .u8 0, .int .u8 0, .int .u8 0, .int .u8 0, .int .u8 0, .int .u8 0, .int .u8 0, .int .u8 0, .int .u8 0, .int .u8 0, .int .u8 0, .int .u8 0, .int .u8 0] 91)) = .ok () (w2.alloc (.cells (ndL e).toArray 91)) := by
    rw [← hg3]; exact run_storeCells_new (P := Try.prog) w2 91 nd0 (ndL e).toArray (nd_isa e) (by rw [nd_size]; rfl) (nd_one e)
  obtain ⟨w4, hw4⟩ : ∃ w4, w4 = w2.alloc (.cells (ndL e).toArray 91) := ⟨_, rfl⟩
  rw [← hw4] at hst
  have q4 : Below w2.heap.size w2 w4 := by rw [hw4]; exact (Below.refl _ _).alloc (Nat.le_refl _) _
  have n4 : w4.heap[g3]? = some (.cells (ndL e).toArray 91 (0, 0)) := by rw [hw4, ← hg3]; exact heap_alloc_new _ _
  have K4 : HTo w g m w4 := T2.trans (HTo.quiet q4)
  have H4 := H2.below q4
  have hs4 : w.heap.size ≤ g3 ∧ g3 < w4.heap.size := by
    rw [hw4, ← hg3]; have := T2.size; simp; omega
  have D4 : HTo w g m w4.drew := K4.trans (HTo.quiet ⟨rfl, rfl, rfl, Nat.le_refl _, fun _ _ => rfl⟩)
  have DH4 : Hp w4.drew h g m n u C1 Z1 X1 := H4.below ⟨rfl, rfl, rfl, Nat.le_refl _, fun _ _ => rfl⟩
  have cp : w4.drew.cell? ⟨p, o, none⟩ = some (.int .i64 (i : Int)) := by
    rw [← HP.out]; exact cell_of_heap (K4.oth p HPW.out hpg'.out hpm'.out) o
  have ce : w4.drew.cell? ⟨g3, i, none⟩ = some (.int .u8 ((e i : Nat) : Int)) := by
    have : w4.drew.heap[g3]? = some (.cells (ndL e).toArray 91 (0, 0)) := n4
    simp only [World.cell?, this]; simpa using ndL_get e i hi
  have cs := HSUB.out _ DH4 D4
  have HSE : Hid (∀ W, HTo w4.drew g m W → W.cell? ⟨p, o, none⟩ = some (.int .i64 (i : Int)) ∧ W.cell? ⟨g3, i, none⟩ = some (.int .u8 ((e i : Nat) : Int))) := Lib.hid fun W hW => ⟨by
    rw [← cp]; exact cell_of_heap (hW.oth p (by have := D4.size; omega) hpg'.out hpm'.out) o, by
    rw [← ce]; exact cell_of_heap (hW.oth g3 hs4.2 (by have := hgl.out; omega) (by have := hml.out; omega)) i⟩
  have HN4 := Lib.hid n4
  have HLD : Hid (∀ W, HTo w4.drew g m W → (Instr.loadAt 91 (.pointer (some ⟨g3, 0, none⟩))).run Try.prog W = .ok (.agg (ndL e).toArray) W) := Lib.hid fun W hW => nd_cells ((hW.oth g3 hs4.2 (by have := hgl.out; omega) (by have := hml.out; omega)).trans n4)
  have HK4 := Lib.hid D4
  clear hpw0
  have HS4 := Lib.hid hs4
  clear T2 H2 q4 n4 K4 H4 hs4 D4 DH4 hw4 cr
  go_upto_region 9 with (fail)
  clear hst hg3
  refine wp_region_held_drew (S := fun V => V.cell? ⟨p, o, none⟩ = some (.int .i64 (i : Int)) ∧ V.cell? ⟨g3, i, none⟩ = some (.int .u8 ((e i : Nat) : Int))) (by kernel_rfl) (HSE.out _ (HTo.refl _ _ _)) (fun hHeld => ?_)
  refine wpAnyH_takeD (i := 0) (some 35) rfl (by kernel_rfl) (by kernel_rfl) (by kernel_rfl) rfl (fun _ _ _ h => h) (Or.inl ⟨by rfl, by rintro w ⟨hs1, hs2⟩; go_simp; try rfl⟩) (by assumption) ?_
  simp only [Act.put, List.setIfInBounds_toArray, List.set_cons_zero, List.set_cons_succ]
  refine wpAnyH_takeD (i := 1) (some 36) rfl (by kernel_rfl) (by kernel_rfl) (by kernel_rfl) rfl (fun _ _ _ h => h) (Or.inl ⟨by rfl, by rintro w ⟨hs1, hs2⟩; go_simp; try rfl⟩) (by assumption) ?_
  simp only [Act.put, List.setIfInBounds_toArray, List.set_cons_zero, List.set_cons_succ]
  refine wpAnyH_takeD (i := 2) (some 37) rfl (by kernel_rfl) (by kernel_rfl) (by kernel_rfl) rfl (fun _ _ _ h => h) (Or.inl ⟨by rfl, by rintro w ⟨hs1, hs2⟩; go_simp; try rfl⟩) (by assumption) ?_
  simp only [Act.put, List.setIfInBounds_toArray, List.set_cons_zero, List.set_cons_succ]
  refine wpAnyH_takeD (i := 3) (some 38) rfl (by kernel_rfl) (by kernel_rfl) (by kernel_rfl) rfl (fun _ _ _ h => h) (Or.inl ⟨by rfl, by rintro w ⟨hs1, hs2⟩; go_simp; try rfl⟩) (by assumption) ?_
  simp only [Act.put, List.setIfInBounds_toArray, List.set_cons_zero, List.set_cons_succ]
  refine wpAnyH_takeD (i := 4) (some 39) rfl (by kernel_rfl) (by kernel_rfl) (by kernel_rfl) rfl (fun _ _ _ h => h) (Or.inl ⟨by rfl, by rintro w ⟨hs1, hs2⟩; go_simp; try rfl⟩) (by assumption) ?_
  simp only [Act.put, List.setIfInBounds_toArray, List.set_cons_zero, List.set_cons_succ]
  refine wpAnyH_takeD (i := 5) (some 40) rfl (by kernel_rfl) (by kernel_rfl) (by kernel_rfl) rfl (fun _ _ _ h => h) (Or.inl ⟨by rfl, by rintro w ⟨hs1, hs2⟩; go_simp; try rfl⟩) (by assumption) ?_
  simp only [Act.put, List.setIfInBounds_toArray, List.set_cons_zero, List.set_cons_succ]
  refine wpAnyH_takeD (i := 6) (v := Value.int .i64 ((e i : Nat) : Int)) (some 41) rfl (by kernel_rfl) (by kernel_rfl) (by kernel_rfl) rfl (fun _ _ _ h => h) (Or.inl ⟨by rfl, by rintro w ⟨hs1, hs2⟩; go_simp; try rfl⟩) (by assumption) ?_
  simp only [Act.put, List.setIfInBounds_toArray, List.set_cons_zero, List.set_cons_succ]
  refine wpAnyH_takeD (i := 7) (some 42) rfl (by kernel_rfl) (by kernel_rfl) (by kernel_rfl) rfl (fun _ _ _ h => h) (Or.inl ⟨by rfl, by rintro w ⟨hs1, hs2⟩; go_simp; try rfl⟩) (by assumption) ?_
  simp only [Act.put, List.setIfInBounds_toArray, List.set_cons_zero, List.set_cons_succ]
  refine wpAnyH_takeD (i := 8) (v := Value.slice (some ⟨p, o', none⟩) k k) (some 43) rfl (by kernel_rfl) (by kernel_rfl) (by kernel_rfl) rfl (fun _ _ _ h => h) (Or.inl ⟨by rfl, by rintro w ⟨hs1, hs2⟩; go_simp; try rfl⟩) (by assumption) ?_
  simp only [Act.put, List.setIfInBounds_toArray, List.set_cons_zero, List.set_cons_succ]
  refine wpAnyH_takeD (i := 9) (some 44) rfl (by kernel_rfl) (by kernel_rfl) (by kernel_rfl) rfl (fun _ _ _ h => h) (Or.inl ⟨by rfl, by rintro w ⟨hs1, hs2⟩; go_simp; try rfl⟩) (by assumption) ?_
  simp only [Act.put, List.setIfInBounds_toArray, List.set_cons_zero, List.set_cons_succ]
  refine wpAnyH_ready (rs := [10]) (by kernel_rfl) (by simp) ?_
  refine AllReadyH.cons rfl (fun K hK => ?_) AllReadyH.nil
  go_simp
  refine cs.mono ?_
  rintro x w5 ⟨rfl, T5, H5⟩
  refine hK.out _ _ (HSE.out _ T5) (fun hHeld => ?_)
  clear hK
  try simp only [Act.put, List.setIfInBounds_toArray, List.set_cons_zero, List.set_cons_succ]
  refine wpAnyH_takeD (i := 11) (v := Value.tuple #[.int .i64 (kid : Int), .int .i64 0]) (some 34) rfl (by kernel_rfl) (by kernel_rfl) (by kernel_rfl) rfl (fun _ _ _ h => h) (Or.inl ⟨by rfl, by rintro w ⟨hs1, hs2⟩; go_simp; try rfl⟩) (by assumption) ?_
  simp only [Act.put, List.setIfInBounds_toArray, List.set_cons_zero, List.set_cons_succ]
  refine wpAnyH_takeD (i := 12) (v := Value.int .i64 (kid : Int)) (some 46) rfl (by kernel_rfl) (by kernel_rfl) (by kernel_rfl) rfl (fun _ _ _ h => h) (Or.inl ⟨by rfl, by rintro w ⟨hs1, hs2⟩; go_simp; try rfl⟩) (by assumption) ?_
  simp only [Act.put, List.setIfInBounds_toArray, List.set_cons_zero, List.set_cons_succ]
  refine wpAnyH_takeD (i := 13) (v := Value.int .i64 0) (some 47) rfl (by kernel_rfl) (by kernel_rfl) (by kernel_rfl) rfl (fun _ _ _ h => h) (Or.inl ⟨by rfl, by rintro w ⟨hs1, hs2⟩; go_simp; try rfl⟩) (by assumption) ?_
  simp only [Act.put, List.setIfInBounds_toArray, List.set_cons_zero, List.set_cons_succ]
  refine wpAnyH_takeD (i := 14) (v := Value.int .i64 (kid : Int)) (some 13) rfl (by kernel_rfl) (by kernel_rfl) (by kernel_rfl) rfl (fun _ _ _ h => h) (Or.inl ⟨by rfl, by rintro w ⟨hs1, hs2⟩; go_simp; try rfl⟩) (by assumption) ?_
  simp only [Act.put, List.setIfInBounds_toArray, List.set_cons_zero, List.set_cons_succ]
  refine wpAnyH_takeD (i := 15) (v := Value.int .i64 0) (some 12) rfl (by kernel_rfl) (by kernel_rfl) (by kernel_rfl) rfl (fun _ _ _ h => h) (Or.inl ⟨by rfl, by rintro w ⟨hs1, hs2⟩; go_simp; try rfl⟩) (by assumption) ?_
  simp only [Act.put, List.setIfInBounds_toArray, List.set_cons_zero, List.set_cons_succ]
  refine wpAnyH_done (by kernel_rfl) ?_ _
  have T5d : HTo w4.drew g m w5.drew := T5.trans (HTo.quiet ⟨rfl, rfl, rfl, Nat.le_refl _, fun _ _ => rfl⟩)
  have ce2 := HENT.out w5.drew (H5.below ⟨rfl, rfl, rfl, Nat.le_refl _, fun _ _ => rfl⟩)
  have HT5 := Lib.hid T5d
  clear T5 H5 T5d cs cp ce
  go_upto_region 12 with (fail)
  refine wp_region_held_drew (S := fun V => V.cell? ⟨p, o, none⟩ = some (.int .i64 (i : Int)) ∧ (Instr.loadAt 91 (.pointer (some ⟨g3, 0, none⟩))).run Try.prog V = .ok (.agg (ndL e).toArray) V) (by kernel_rfl) ⟨(HSE.out _ HT5.out).1, HLD.out _ HT5.out⟩ (fun hHeld => ?_)
  refine wpAnyH_takeD (i := 0) (some 51) rfl (by kernel_rfl) (by kernel_rfl) (by kernel_rfl) rfl (fun _ _ _ h => h) (Or.inl ⟨by rfl, by rintro w ⟨hs1, hs2⟩; go_simp; try rfl⟩) (by assumption) ?_
  simp only [Act.put, List.setIfInBounds_toArray, List.set_cons_zero, List.set_cons_succ]
  refine wpAnyH_takeD (i := 1) (some 52) rfl (by kernel_rfl) (by kernel_rfl) (by kernel_rfl) rfl (fun _ _ _ h => h) (Or.inl ⟨by rfl, by rintro w ⟨hs1, hs2⟩; go_simp; try rfl⟩) (by assumption) ?_
  simp only [Act.put, List.setIfInBounds_toArray, List.set_cons_zero, List.set_cons_succ]
  refine wpAnyH_takeD (i := 2) (some 53) rfl (by kernel_rfl) (by kernel_rfl) (by kernel_rfl) rfl (fun _ _ _ h => h) (yieldsIf_load_run (by rfl) _ rfl rfl (fun w hS => hS.2)) (by assumption) ?_
  simp only [Act.put, List.setIfInBounds_toArray, List.set_cons_zero, List.set_cons_succ]
  refine wpAnyH_takeD (i := 3) (some 54) rfl (by kernel_rfl) (by kernel_rfl) (by kernel_rfl) rfl (fun _ _ _ h => h) (Or.inl ⟨by rfl, by rintro w ⟨hs1, hs2⟩; go_simp; try rfl⟩) (by assumption) ?_
  simp only [Act.put, List.setIfInBounds_toArray, List.set_cons_zero, List.set_cons_succ]
  refine wpAnyH_takeD (i := 4) (some 55) rfl (by kernel_rfl) (by kernel_rfl) (by kernel_rfl) rfl (fun _ _ _ h => h) (Or.inl ⟨by rfl, by rintro w ⟨hs1, hs2⟩; go_simp; try rfl⟩) (by assumption) ?_
  simp only [Act.put, List.setIfInBounds_toArray, List.set_cons_zero, List.set_cons_succ]
  refine wpAnyH_takeD (i := 5) (some 56) rfl (by kernel_rfl) (by kernel_rfl) (by kernel_rfl) rfl (fun _ _ _ h => h) (Or.inl ⟨by rfl, by rintro w ⟨hs1, hs2⟩; go_simp; try rfl⟩) (by assumption) ?_
  simp only [Act.put, List.setIfInBounds_toArray, List.set_cons_zero, List.set_cons_succ]
  refine wpAnyH_takeD (i := 6) (some 57) rfl (by kernel_rfl) (by kernel_rfl) (by kernel_rfl) rfl (fun _ _ _ h => h) (Or.inl ⟨by rfl, by rintro w ⟨hs1, hs2⟩; go_simp; try rfl⟩) (by assumption) ?_
  simp only [Act.put, List.setIfInBounds_toArray, List.set_cons_zero, List.set_cons_succ]
  refine wpAnyH_ready (rs := [7]) (by kernel_rfl) (by simp) ?_
  refine AllReadyH.cons rfl (fun K hK => ?_) AllReadyH.nil
  go_simp
  refine ce2.mono ?_
  rintro x w6 ⟨rfl, T6, H6⟩
  refine hK.out _ _ ⟨(HSE.out _ (HT5.out.trans T6)).1, HLD.out _ (HT5.out.trans T6)⟩ (fun hHeld => ?_)
  clear hK
  try simp only [Act.put, List.setIfInBounds_toArray, List.set_cons_zero, List.set_cons_succ]
  refine wpAnyH_takeD (i := 8) (v := Value.int .i64 (t : Int)) (some 59) rfl (by kernel_rfl) (by kernel_rfl) (by kernel_rfl) rfl (fun _ _ _ h => h) (Or.inl ⟨by rfl, by rintro w ⟨hs1, hs2⟩; go_simp; try rfl⟩) (by assumption) ?_
  simp only [Act.put, List.setIfInBounds_toArray, List.set_cons_zero, List.set_cons_succ]
  refine wpAnyH_takeD (i := 9) (v := Value.int .i64 0) (some 60) rfl (by kernel_rfl) (by kernel_rfl) (by kernel_rfl) rfl (fun _ _ _ h => h) (Or.inl ⟨by rfl, by rintro w ⟨hs1, hs2⟩; go_simp; try rfl⟩) (by assumption) ?_
  simp only [Act.put, List.setIfInBounds_toArray, List.set_cons_zero, List.set_cons_succ]
  refine wpAnyH_takeD (i := 10) (v := Value.int .i64 (t : Int)) (some 8) rfl (by kernel_rfl) (by kernel_rfl) (by kernel_rfl) rfl (fun _ _ _ h => h) (Or.inl ⟨by rfl, by rintro w ⟨hs1, hs2⟩; go_simp; try rfl⟩) (by assumption) ?_
  simp only [Act.put, List.setIfInBounds_toArray, List.set_cons_zero, List.set_cons_succ]
  refine wpAnyH_takeD (i := 11) (v := Value.int .i64 0) (some 9) rfl (by kernel_rfl) (by kernel_rfl) (by kernel_rfl) rfl (fun _ _ _ h => h) (Or.inl ⟨by rfl, by rintro w ⟨hs1, hs2⟩; go_simp; try rfl⟩) (by assumption) ?_
  simp only [Act.put, List.setIfInBounds_toArray, List.set_cons_zero, List.set_cons_succ]
  refine wpAnyH_done (by kernel_rfl) ?_ _
  have hfin := Lib.hid (show HTo w g m w6 from (HK4.out.trans HT5.out).trans T6)
  have hfin2 := Lib.hid H6
  clear T6 H6 ce2
  go_wp2_with (fail)
  go_ret2
  exact ⟨rfl, hfin.out, hfin2.out⟩
end
end Go.Proofs.Ytlbjfigdocbffaa
