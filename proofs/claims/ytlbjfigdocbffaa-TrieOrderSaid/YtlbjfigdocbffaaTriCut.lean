/- trie: one level of cut. -/
import Derived.Test.YtlbjfigdocbffaaTriSetL
import Derived.Stop.BytesEq
namespace Go.Proofs.Ytlbjfigdocbffaa
open Go.RowKit
set_option linter.unusedVariables false
set_option linter.unusedSimpArgs false

theorem nd_cell (e : Nat → Nat) (he : ∀ i, i < 16 → e i ≤ 255) : ndL e = ((List.range 16).map fun i => UInt8.ofNat (e i)).map Extern.Stop.cell := by
  unfold ndL
  rw [List.map_map]
  refine List.map_congr_left fun i hi => ?_
  have h16 : i < 16 := by simpa using hi
  show _ = Extern.Stop.cell (UInt8.ofNat (e i))
  unfold Extern.Stop.cell
  rw [UInt8.toNat_ofNat', Nat.mod_eq_of_lt (by have := he i h16; omega)]
  rfl
theorem u8_list_eq {e f : Nat → Nat} (he : ∀ i, i < 16 → e i ≤ 255) (hf : ∀ i, i < 16 → f i ≤ 255) : (((List.range 16).map fun i => UInt8.ofNat (e i)) == ((List.range 16).map fun i => UInt8.ofNat (f i))) = true ↔ ∀ i, i < 16 → e i = f i := by
  rw [beq_iff_eq]
  constructor
  · intro h i hi
    have := congrArg (fun l => l[i]?) h
    simp [hi] at this
    have h2 := congrArg UInt8.toNat this
    rw [UInt8.toNat_ofNat', UInt8.toNat_ofNat', Nat.mod_eq_of_lt (by have := he i hi; omega), Nat.mod_eq_of_lt (by have := hf i hi; omega)] at h2
    exact h2
  · intro h
    exact List.map_congr_left fun i hi => by rw [h i (by simpa using hi)]
set_option maxRecDepth 100000 in
theorem nd_eql (e : Nat → Nat) (he : ∀ i, i < 16 → e i ≤ 255) (b : Bool) (hb : b = true ↔ ∀ i, i < 16 → e i = 0) (W : World) :
    (Op.equalIn 10000 91 (.agg (ndL e).toArray) (.agg nd0)).run Try.prog W = .ok b W := by
  have hsz : ∀ w, (sizeOf 5).run Try.prog w = .ok 1 w := fun w => by kernel_rfl
  have h0 : ∀ i, i < 16 → (fun _ : Nat => 0) i ≤ 255 := fun i _ => by show 0 ≤ 255; omega
  have := run_equalIn_bytes (P := Try.prog) W 9998 91 5 16 nd_under Try.underlying5 hsz ((List.range 16).map fun i => UInt8.ofNat (e i)) ((List.range 16).map fun i => UInt8.ofNat ((fun _ => 0) i)) (by simp) (by simp)
  rw [← nd_cell e he, ← nd_cell (fun _ => 0) h0, ← nd0_eq] at this
  rw [show (10000 : Nat) = 9998 + 2 from rfl, this]
  congr 1
  rw [Bool.eq_iff_iff, u8_list_eq he h0, hb]
section
variable {w w' w1 : World} {h g m n : Nat} {u : Value} {C C1 C2 C3 : Nat → Nat} {Z Z1 Z2 Z3 : Int → Bool} {X X1 X2 X3 : Nat → ByteArray} {v : Value} {x : Ending}
set_option maxRecDepth 100000 in
set_option maxHeartbeats 1000000 in
theorem cut_leaf (b p o : Nat) (hrel : Calls Try.prog 49 #[.pointer (some ⟨h, 0, none⟩), .int .i64 (b : Int)] w (HpG w h g m n u C1 Z1 X1 (.int .i64 0))) :
    Calls Try.prog 45 #[.pointer (some ⟨h, 0, none⟩), .int .i64 (b : Int), restV p o 0] w (HpG w h g m n u C1 Z1 X1 (.tuple #[.int .i64 0, .int .i64 0])) := by
  unfold restV
  go_enter Try.func45, Try.ntmps45
  go_wp2_with (fail)
  refine hrel.mono ?_
  rintro x w2 ⟨rfl, T2, H2⟩
  have hfin := Lib.hid T2
  have hfin2 := Lib.hid H2
  clear T2 H2
  go_wp2_with (fail)
  go_ret2
  exact ⟨rfl, hfin.out, hfin2.out⟩
set_option maxRecDepth 100000 in
set_option maxHeartbeats 2000000 in
theorem cut_gone (H : Hp w h g m n u C Z X) (b p o o' k i t kid : Nat) (e : Nat → Nat) (hi : i < 16) (he : ∀ j, j < 16 → e j ≤ 255) (hk2 : kid ≤ 255) (hpw : p < w.heap.size) (hpg : p ≠ g) (hpm : p ≠ m) (hp : w.cell? ⟨p, o, none⟩ = some (.int .i64 (i : Int))) (ho : o' = if k = 0 then o else o + 1)
    (hown : ∀ W, Hp W h g m n u C Z X → Calls Try.prog 57 #[.pointer (some ⟨h, 0, none⟩), .int .i64 (b : Int)] W (HpG W h g m n u C1 Z1 X1 (.tuple #[.int .i64 (t : Int), .agg (ndL e).toArray, .int .i64 0])))
    (hsub : ∀ W, Hp W h g m n u C1 Z1 X1 → HTo w g m W → Calls Try.prog 45 #[.pointer (some ⟨h, 0, none⟩), .int .i64 ((e i : Nat) : Int), restV p o' k] W (HpG W h g m n u C2 Z2 X2 (.tuple #[.int .i64 (kid : Int), .int .i64 0])))
    (hz : ∀ j, j < 16 → Tri.updE e i kid j = 0)
    (hend : ∀ W, Hp W h g m n u C2 Z2 X2 → Calls Try.prog 49 #[.pointer (some ⟨h, 0, none⟩), .int .i64 (t : Int)] W (HpG W h g m n u C3 Z3 X3 (.int .i64 0))) :
    Calls Try.prog 45 #[.pointer (some ⟨h, 0, none⟩), .int .i64 (b : Int), restV p o (k + 1)] w (HpG w h g m n u C3 Z3 X3 (.tuple #[.int .i64 0, .int .i64 0])) := by
  have hei := he i hi
  have hsl := rest_slice p o k
  rw [← ho] at hsl
  clear ho
  have hwr : IntKind.i64.wrap ((e i : Nat) : Int) = ((e i : Nat) : Int) := by simp [IntKind.wrap, IntKind.signed, IntKind.bits]; omega
  have hwk : IntKind.u8.wrap (kid : Int) = (kid : Int) := by simp [IntKind.wrap, IntKind.signed, IntKind.bits]; omega
  have cr := hown w H
  have t1 : (i : Int) < 16 := by omega
  have t2 : ¬ ((k : Int) + 1 = 0) := by omega
  have t3 : (((k : Int) + 1) == 0) = false := by rw [beq_eq_false_iff_ne]; omega
  have t4 : (0 : Int) < (k : Int) + 1 := by omega
  have HSUB := Lib.hid hsub
  have HEND := Lib.hid hend
  have HE := Lib.hid he
  have HP := Lib.hid hp
  have HPW := Lib.hid hpw
  have hpw0 := hpw
  have hgl := Lib.hid (H.lts g (.inr (.inl rfl)))
  have hml := Lib.hid (H.lts m (.inr (.inr (.inl rfl))))
  have hpg' := Lib.hid hpg
  have hpm' := Lib.hid hpm
  clear hown hsub hend H hpw hpg hpm hp he
  unfold restV at *
  go_enter Try.func45, Try.ntmps45
  go_wp2_with (fail)
  refine cr.mono ?_
  rintro x w2 ⟨rfl, T2, H2⟩
  obtain ⟨g3, hg3⟩ : ∃ g3, w2.heap.size = g3 := ⟨_, rfl⟩
  have hst : (storeCells ⟨g3, 0, none⟩ (ndL e) 0).run Try.prog (w2.alloc (.cells #[.int .u8 0, .int .u8 0, .int .u8 0, .int .u8 0, .int .u8 0, .int .u8 0, .int .u8 0, .int .u8 0, .int .u8 0, .int .u8 0, .int .u8 0, .int .u8 0, .int .u8 0, .int .u8 0, .int .u8 0, .int .u8 0] 91)) = .ok () (w2.alloc (.cells (ndL e).toArray 91)) := by
    rw [← hg3]; exact run_storeCells_new (P := Try.prog) w2 91 nd0 (ndL e).toArray (nd_isa e) (by rw [nd_size]; rfl) (nd_one e)
  obtain ⟨w4, hw4⟩ : ∃ w4, w4 = w2.alloc (.cells (ndL e).toArray 91) := ⟨_, rfl⟩
  rw [← hw4] at hst
  have q4 : Below w2.heap.size w2 w4 := by rw [hw4]; exact (Below.refl _ _).alloc (Nat.le_refl _) _
  have n4 : w4.heap[g3]? = some (.cells (ndL e).toArray 91 (0, 0)) := by rw [hw4, ← hg3]; exact heap_alloc_new _ _
  have K4 : HTo w g m w4 := T2.trans (HTo.quiet q4)
  have H4 := H2.below q4
  have hs4 : w.heap.size ≤ g3 ∧ g3 < w4.heap.size := by
    rw [hw4, ← hg3]; have := T2.size; simp; omega
  have D4 : HTo w g m w4.drew := K4.trans (HTo.quiet ⟨rfl, rfl, rfl, Nat.le_refl _, fun _ _ => rfl⟩)
  have DH4 : Hp w4.drew h g m n u C1 Z1 X1 := H4.below ⟨rfl, rfl, rfl, Nat.le_refl _, fun _ _ => rfl⟩
  have cp : w4.drew.cell? ⟨p, o, none⟩ = some (.int .i64 (i : Int)) := by
    rw [← HP.out]; exact cell_of_heap (K4.oth p HPW.out hpg'.out hpm'.out) o
  have ce : w4.drew.cell? ⟨g3, i, none⟩ = some (.int .u8 ((e i : Nat) : Int)) := by
    have : w4.drew.heap[g3]? = some (.cells (ndL e).toArray 91 (0, 0)) := n4
    simp only [World.cell?, this]; simpa using ndL_get e i hi
  have cs := HSUB.out _ DH4 D4
  have HSE : Hid (∀ W, HTo w4.drew g m W → W.cell? ⟨p, o, none⟩ = some (.int .i64 (i : Int)) ∧ W.cell? ⟨g3, i, none⟩ = some (.int .u8 ((e i : Nat) : Int))) := Lib.hid fun W hW => ⟨by
    rw [← cp]; exact cell_of_heap (hW.oth p (by have := D4.size; omega) hpg'.out hpm'.out) o, by
    rw [← ce]; exact cell_of_heap (hW.oth g3 hs4.2 (by have := hgl.out; omega) (by have := hml.out; omega)) i⟩
  have HLD : Hid (∀ W, HTo w4.drew g m W → (Instr.loadAt 91 (.pointer (some ⟨g3, 0, none⟩))).run Try.prog W = .ok (.agg (ndL e).toArray) W) := Lib.hid fun W hW => nd_cells ((hW.oth g3 hs4.2 (by have := hgl.out; omega) (by have := hml.out; omega)).trans n4)
  have HK4 := Lib.hid D4
  clear hpw0
  have HS4 := Lib.hid hs4
  clear T2 H2 q4 n4 K4 H4 hs4 D4 DH4 hw4 cr
  go_upto_region 6 with (fail)
  clear hst hg3
  refine wp_region_held_drew (S := fun V => V.cell? ⟨p, o, none⟩ = some (.int .i64 (i : Int)) ∧ V.cell? ⟨g3, i, none⟩ = some (.int .u8 ((e i : Nat) : Int))) (by kernel_rfl) (HSE.out _ (HTo.refl _ _ _)) (fun hHeld => ?_)
  refine wpAnyH_takeD (i := 0) (some 29) rfl (by kernel_rfl) (by kernel_rfl) (by kernel_rfl) rfl (fun _ _ _ h => h) (Or.inl ⟨by rfl, by rintro w ⟨hs1, hs2⟩; go_simp; try rfl⟩) (by assumption) ?_
  simp only [Act.put, List.setIfInBounds_toArray, List.set_cons_zero, List.set_cons_succ]
  refine wpAnyH_takeD (i := 1) (some 30) rfl (by kernel_rfl) (by kernel_rfl) (by kernel_rfl) rfl (fun _ _ _ h => h) (Or.inl ⟨by rfl, by rintro w ⟨hs1, hs2⟩; go_simp; try rfl⟩) (by assumption) ?_
  simp only [Act.put, List.setIfInBounds_toArray, List.set_cons_zero, List.set_cons_succ]
  refine wpAnyH_takeD (i := 2) (some 31) rfl (by kernel_rfl) (by kernel_rfl) (by kernel_rfl) rfl (fun _ _ _ h => h) (Or.inl ⟨by rfl, by rintro w ⟨hs1, hs2⟩; go_simp; try rfl⟩) (by assumption) ?_
  simp only [Act.put, List.setIfInBounds_toArray, List.set_cons_zero, List.set_cons_succ]
  refine wpAnyH_takeD (i := 3) (some 32) rfl (by kernel_rfl) (by kernel_rfl) (by kernel_rfl) rfl (fun _ _ _ h => h) (Or.inl ⟨by rfl, by rintro w ⟨hs1, hs2⟩; go_simp; try rfl⟩) (by assumption) ?_
  simp only [Act.put, List.setIfInBounds_toArray, List.set_cons_zero, List.set_cons_succ]
  refine wpAnyH_takeD (i := 4) (some 33) rfl (by kernel_rfl) (by kernel_rfl) (by kernel_rfl) rfl (fun _ _ _ h => h) (Or.inl ⟨by rfl, by rintro w ⟨hs1, hs2⟩; go_simp; try rfl⟩) (by assumption) ?_
  simp only [Act.put, List.setIfInBounds_toArray, List.set_cons_zero, List.set_cons_succ]
  refine wpAnyH_takeD (i := 5) (some 34) rfl (by kernel_rfl) (by kernel_rfl) (by kernel_rfl) rfl (fun _ _ _ h => h) (Or.inl ⟨by rfl, by rintro w ⟨hs1, hs2⟩; go_simp; try rfl⟩) (by assumption) ?_
  simp only [Act.put, List.setIfInBounds_toArray, List.set_cons_zero, List.set_cons_succ]
  refine wpAnyH_takeD (i := 6) (v := Value.int .i64 ((e i : Nat) : Int)) (some 35) rfl (by kernel_rfl) (by kernel_rfl) (by kernel_rfl) rfl (fun _ _ _ h => h) (Or.inl ⟨by rfl, by rintro w ⟨hs1, hs2⟩; go_simp; try rfl⟩) (by assumption) ?_
  simp only [Act.put, List.setIfInBounds_toArray, List.set_cons_zero, List.set_cons_succ]
  refine wpAnyH_takeD (i := 7) (some 36) rfl (by kernel_rfl) (by kernel_rfl) (by kernel_rfl) rfl (fun _ _ _ h => h) (Or.inl ⟨by rfl, by rintro w ⟨hs1, hs2⟩; go_simp; try rfl⟩) (by assumption) ?_
  simp only [Act.put, List.setIfInBounds_toArray, List.set_cons_zero, List.set_cons_succ]
  refine wpAnyH_takeD (i := 8) (v := Value.slice (some ⟨p, o', none⟩) k k) (some 37) rfl (by kernel_rfl) (by kernel_rfl) (by kernel_rfl) rfl (fun _ _ _ h => h) (Or.inl ⟨by rfl, by rintro w ⟨hs1, hs2⟩; go_simp; try rfl⟩) (by assumption) ?_
  simp only [Act.put, List.setIfInBounds_toArray, List.set_cons_zero, List.set_cons_succ]
  refine wpAnyH_ready (rs := [9]) (by kernel_rfl) (by simp) ?_
  refine AllReadyH.cons rfl (fun K hK => ?_) AllReadyH.nil
  go_simp
  refine cs.mono ?_
  rintro x w5 ⟨rfl, T5, H5⟩
  refine hK.out _ _ (HSE.out _ T5) (fun hHeld => ?_)
  clear hK
  try simp only [Act.put, List.setIfInBounds_toArray, List.set_cons_zero, List.set_cons_succ]
  refine wpAnyH_takeD (i := 10) (v := Value.tuple #[.int .i64 (kid : Int), .int .i64 0]) (some 28) rfl (by kernel_rfl) (by kernel_rfl) (by kernel_rfl) rfl (fun _ _ _ h => h) (Or.inl ⟨by rfl, by rintro w ⟨hs1, hs2⟩; go_simp; try rfl⟩) (by assumption) ?_
  simp only [Act.put, List.setIfInBounds_toArray, List.set_cons_zero, List.set_cons_succ]
  refine wpAnyH_takeD (i := 11) (v := Value.int .i64 (kid : Int)) (some 39) rfl (by kernel_rfl) (by kernel_rfl) (by kernel_rfl) rfl (fun _ _ _ h => h) (Or.inl ⟨by rfl, by rintro w ⟨hs1, hs2⟩; go_simp; try rfl⟩) (by assumption) ?_
  simp only [Act.put, List.setIfInBounds_toArray, List.set_cons_zero, List.set_cons_succ]
  refine wpAnyH_takeD (i := 12) (v := Value.int .i64 0) (some 40) rfl (by kernel_rfl) (by kernel_rfl) (by kernel_rfl) rfl (fun _ _ _ h => h) (Or.inl ⟨by rfl, by rintro w ⟨hs1, hs2⟩; go_simp; try rfl⟩) (by assumption) ?_
  simp only [Act.put, List.setIfInBounds_toArray, List.set_cons_zero, List.set_cons_succ]
  refine wpAnyH_takeD (i := 13) (v := Value.int .i64 (kid : Int)) (some 10) rfl (by kernel_rfl) (by kernel_rfl) (by kernel_rfl) rfl (fun _ _ _ h => h) (Or.inl ⟨by rfl, by rintro w ⟨hs1, hs2⟩; go_simp; try rfl⟩) (by assumption) ?_
  simp only [Act.put, List.setIfInBounds_toArray, List.set_cons_zero, List.set_cons_succ]
  refine wpAnyH_takeD (i := 14) (v := Value.int .i64 0) (some 9) rfl (by kernel_rfl) (by kernel_rfl) (by kernel_rfl) rfl (fun _ _ _ h => h) (Or.inl ⟨by rfl, by rintro w ⟨hs1, hs2⟩; go_simp; try rfl⟩) (by assumption) ?_
  simp only [Act.put, List.setIfInBounds_toArray, List.set_cons_zero, List.set_cons_succ]
  refine wpAnyH_done (by kernel_rfl) ?_ _
  have hld5 := HLD.out _ T5
  obtain ⟨g5, hg5⟩ : ∃ g5, w5.heap.size = g5 := ⟨_, rfl⟩
  have hst5 : (storeCells ⟨g5, 0, none⟩ (ndL e) 0).run Try.prog (w5.alloc (.cells #[.int .u8 0, .int .u8 0, .int .u8 0, .int .u8 0, .int .u8 0, .int .u8 0, .int .u8 0, .int .u8 0, .int .u8 0, .int .u8 0, .int .u8 0, .int .u8 0, .int .u8 0, .int .u8 0, .int .u8 0, .int .u8 0] 91)) = .ok () (w5.alloc (.cells (ndL e).toArray 91)) := by
    rw [← hg5]; exact run_storeCells_new (P := Try.prog) w5 91 nd0 (ndL e).toArray (nd_isa e) (by rw [nd_size]; rfl) (nd_one e)
  obtain ⟨w6, hw6⟩ : ∃ w6, w6 = w5.alloc (.cells (ndL e).toArray 91) := ⟨_, rfl⟩
  rw [← hw6] at hst5
  have q6 : Below w5.heap.size w5 w6 := by rw [hw6]; exact (Below.refl _ _).alloc (Nat.le_refl _) _
  have n6 : w6.heap[g5]? = some (.cells (ndL e).toArray 91 (0, 0)) := by rw [hw6, ← hg5]; exact heap_alloc_new _ _
  have f6 : w6.frozen? ⟨g5, i, none⟩ = false := by simp [World.frozen?, n6]
  have c6 : w6.cell? ⟨g5, i, none⟩ = some (.int .u8 ((e i : Nat) : Int)) := by
    simp only [World.cell?, n6]; simpa using ndL_get e i hi
  obtain ⟨w7, hw7⟩ : ∃ w7, w7 = w6.setCell ⟨g5, i, none⟩ (.int .u8 (kid : Int)) := ⟨_, rfl⟩
  have q7 : Below w5.heap.size w5 w7 := by rw [hw7]; exact q6.setCell (p := ⟨g5, i, none⟩) (Nat.le_of_eq hg5) _
  have n7 : w7.heap[g5]? = some (.cells (ndL (Tri.updE e i kid)).toArray 91 (0, 0)) := by
    rw [hw7, ← ndL_set]; simp [World.setCell, Array.getElem?_modify, n6]
  have hld7 := nd_cells n7
  have T6 : HTo w4.drew g m w6 := T5.trans (HTo.quiet q6)
  have T7 : HTo w4.drew g m w7 := T5.trans (HTo.quiet q7)
  have H7 := Lib.hid (H5.below q7)
  have HT7 := Lib.hid T7
  have cp6 := (HSE.out _ T6).1
  have hq := nd_eql (Tri.updE e i kid) (fun j hj => by
    by_cases ej : j = i
    · subst ej; rw [Tri.updE_same]; exact hk2
    · rw [Tri.updE_other ej]; exact HE.out j hj)
  clear T5 H5 T7 q6 q7 n6 n7 cs cp ce T6
  unfold nd0 at hq
  clear hw6
  go_upto_region 10 with (with_reducible refine wpList_load_run hld5 rfl _ rfl rfl ?_)
  clear hst5 hld5 hg5
  go_upto_region 11 with (fail)
  rw [← hw7]
  clear hw7 f6 c6 cp6
  have hq1 := hq true (by simpa using hz)
  clear hq hz
  have ce2 := HEND.out w7 H7.out
  generalize ndL (Tri.updE e i kid) = es2 at *
  go_wp2_with (with_reducible refine wpList_load_run hld7 rfl _ rfl rfl ?_)
  refine ce2.mono ?_
  rintro x w8 ⟨rfl, T8, H8⟩
  have hfin := Lib.hid (show HTo w g m w8 from (HK4.out.trans HT7.out).trans T8)
  have hfin2 := Lib.hid H8
  clear T8 H8 ce2
  go_wp2_with (fail)
  go_ret2
  exact ⟨rfl, hfin.out, hfin2.out⟩
set_option maxRecDepth 100000 in
set_option maxHeartbeats 2000000 in
theorem cut_enter (H : Hp w h g m n u C Z X) (b p o o' k i t kid : Nat) (e : Nat → Nat) (hi : i < 16) (he : ∀ j, j < 16 → e j ≤ 255) (hk2 : kid ≤ 255) (hpw : p < w.heap.size) (hpg : p ≠ g) (hpm : p ≠ m) (hp : w.cell? ⟨p, o, none⟩ = some (.int .i64 (i : Int))) (ho : o' = if k = 0 then o else o + 1)
    (hown : ∀ W, Hp W h g m n u C Z X → Calls Try.prog 57 #[.pointer (some ⟨h, 0, none⟩), .int .i64 (b : Int)] W (HpG W h g m n u C1 Z1 X1 (.tuple #[.int .i64 (t : Int), .agg (ndL e).toArray, .int .i64 0])))
    (hsub : ∀ W, Hp W h g m n u C1 Z1 X1 → HTo w g m W → Calls Try.prog 45 #[.pointer (some ⟨h, 0, none⟩), .int .i64 ((e i : Nat) : Int), restV p o' k] W (HpG W h g m n u C2 Z2 X2 (.tuple #[.int .i64 (kid : Int), .int .i64 0])))
    (hz : ∃ j, j < 16 ∧ Tri.updE e i kid j ≠ 0)
    (hend : ∀ W, Hp W h g m n u C2 Z2 X2 → Calls Try.prog 56 #[.pointer (some ⟨h, 0, none⟩), .int .i64 (t : Int), .agg (ndL e).toArray, .int .i64 (i : Int), .int .i64 (kid : Int)] W (HpG W h g m n u C3 Z3 X3 (.tuple #[.int .i64 (t : Int), .int .i64 0]))) :
    Calls Try.prog 45 #[.pointer (some ⟨h, 0, none⟩), .int .i64 (b : Int), restV p o (k + 1)] w (HpG w h g m n u C3 Z3 X3 (.tuple #[.int .i64 (t : Int), .int .i64 0])) := by
  have hei := he i hi
  have hsl := rest_slice p o k
  rw [← ho] at hsl
  clear ho
  have hwr : IntKind.i64.wrap ((e i : Nat) : Int) = ((e i : Nat) : Int) := by simp [IntKind.wrap, IntKind.signed, IntKind.bits]; omega
  have hwk : IntKind.u8.wrap (kid : Int) = (kid : Int) := by simp [IntKind.wrap, IntKind.signed, IntKind.bits]; omega
  have cr := hown w H
  have t1 : (i : Int) < 16 := by omega
  have t2 : ¬ ((k : Int) + 1 = 0) := by omega
  have t3 : (((k : Int) + 1) == 0) = false := by rw [beq_eq_false_iff_ne]; omega
  have t4 : (0 : Int) < (k : Int) + 1 := by omega
  have HSUB := Lib.hid hsub
  have HEND := Lib.hid hend
  have HE := Lib.hid he
  have HP := Lib.hid hp
  have HPW := Lib.hid hpw
  have hpw0 := hpw
  have hgl := Lib.hid (H.lts g (.inr (.inl rfl)))
  have hml := Lib.hid (H.lts m (.inr (.inr (.inl rfl))))
  have hpg' := Lib.hid hpg
  have hpm' := Lib.hid hpm
  clear hown hsub hend H hpw hpg hpm hp he
  unfold restV at *
  go_enter Try.func45, Try.ntmps45
  go_wp2_with (fail)
  refine cr.mono ?_
  rintro x w2 ⟨rfl, T2, H2⟩
  obtain ⟨g3, hg3⟩ : ∃ g3, w2.heap.size = g3 := ⟨_, rfl⟩
  have hst : (storeCells ⟨g3, 0, none⟩ (ndL e) 0).run Try.prog (w2.alloc (.cells #[.int .u8 0, .int .u8 0, .int .u8 0, .int .u8 0, .int .u8 0, .int .u8 0, .int .u8 0, .int .u8 0, .int .u8 0, .int .u8 0, .int .u8 0, .int .u8 0, .int .u8 0, .int .u8 0, .int .u8 0, .int .u8 0] 91)) = .ok () (w2.alloc (.cells (ndL e).toArray 91)) := by
    rw [← hg3]; exact run_storeCells_new (P := Try.prog) w2 91 nd0 (ndL e).toArray (nd_isa e) (by rw [nd_size]; rfl) (nd_one e)
  obtain ⟨w4, hw4⟩ : ∃ w4, w4 = w2.alloc (.cells (ndL e).toArray 91) := ⟨_, rfl⟩
  rw [← hw4] at hst
  have q4 : Below w2.heap.size w2 w4 := by rw [hw4]; exact (Below.refl _ _).alloc (Nat.le_refl _) _
  have n4 : w4.heap[g3]? = some (.cells (ndL e).toArray 91 (0, 0)) := by rw [hw4, ← hg3]; exact heap_alloc_new _ _
  have K4 : HTo w g m w4 := T2.trans (HTo.quiet q4)
  have H4 := H2.below q4
  have hs4 : w.heap.size ≤ g3 ∧ g3 < w4.heap.size := by
    rw [hw4, ← hg3]; have := T2.size; simp; omega
  have D4 : HTo w g m w4.drew := K4.trans (HTo.quiet ⟨rfl, rfl, rfl, Nat.le_refl _, fun _ _ => rfl⟩)
  have DH4 : Hp w4.drew h g m n u C1 Z1 X1 := H4.below ⟨rfl, rfl, rfl, Nat.le_refl _, fun _ _ => rfl⟩
  have cp : w4.drew.cell? ⟨p, o, none⟩ = some (.int .i64 (i : Int)) := by
    rw [← HP.out]; exact cell_of_heap (K4.oth p HPW.out hpg'.out hpm'.out) o
  have ce : w4.drew.cell? ⟨g3, i, none⟩ = some (.int .u8 ((e i : Nat) : Int)) := by
    have : w4.drew.heap[g3]? = some (.cells (ndL e).toArray 91 (0, 0)) := n4
    simp only [World.cell?, this]; simpa using ndL_get e i hi
  have cs := HSUB.out _ DH4 D4
  have HSE : Hid (∀ W, HTo w4.drew g m W → W.cell? ⟨p, o, none⟩ = some (.int .i64 (i : Int)) ∧ W.cell? ⟨g3, i, none⟩ = some (.int .u8 ((e i : Nat) : Int))) := Lib.hid fun W hW => ⟨by
    rw [← cp]; exact cell_of_heap (hW.oth p (by have := D4.size; omega) hpg'.out hpm'.out) o, by
    rw [← ce]; exact cell_of_heap (hW.oth g3 hs4.2 (by have := hgl.out; omega) (by have := hml.out; omega)) i⟩
  have HLD : Hid (∀ W, HTo w4.drew g m W → (Instr.loadAt 91 (.pointer (some ⟨g3, 0, none⟩))).run Try.prog W = .ok (.agg (ndL e).toArray) W) := Lib.hid fun W hW => nd_cells ((hW.oth g3 hs4.2 (by have := hgl.out; omega) (by have := hml.out; omega)).trans n4)
  have HK4 := Lib.hid D4
  clear hpw0
  have HS4 := Lib.hid hs4
  clear T2 H2 q4 n4 K4 H4 hs4 D4 DH4 hw4 cr
  go_upto_region 6 with (fail)
  clear hst hg3
  refine wp_region_held_drew (S := fun V => V.cell? ⟨p, o, none⟩ = some (.int .i64 (i : Int)) ∧ V.cell? ⟨g3, i, none⟩ = some (.int .u8 ((e i : Nat) : Int))) (by kernel_rfl) (HSE.out _ (HTo.refl _ _ _)) (fun hHeld => ?_)
  refine wpAnyH_takeD (i := 0) (some 29) rfl (by kernel_rfl) (by kernel_rfl) (by kernel_rfl) rfl (fun _ _ _ h => h) (Or.inl ⟨by rfl, by rintro w ⟨hs1, hs2⟩; go_simp; try rfl⟩) (by assumption) ?_
  simp only [Act.put, List.setIfInBounds_toArray, List.set_cons_zero, List.set_cons_succ]
  refine wpAnyH_takeD (i := 1) (some 30) rfl (by kernel_rfl) (by kernel_rfl) (by kernel_rfl) rfl (fun _ _ _ h => h) (Or.inl ⟨by rfl, by rintro w ⟨hs1, hs2⟩; go_simp; try rfl⟩) (by assumption) ?_
  simp only [Act.put, List.setIfInBounds_toArray, List.set_cons_zero, List.set_cons_succ]
  refine wpAnyH_takeD (i := 2) (some 31) rfl (by kernel_rfl) (by kernel_rfl) (by kernel_rfl) rfl (fun _ _ _ h => h) (Or.inl ⟨by rfl, by rintro w ⟨hs1, hs2⟩; go_simp; try rfl⟩) (by assumption) ?_
  simp only [Act.put, List.setIfInBounds_toArray, List.set_cons_zero, List.set_cons_succ]
  refine wpAnyH_takeD (i := 3) (some 32) rfl (by kernel_rfl) (by kernel_rfl) (by kernel_rfl) rfl (fun _ _ _ h => h) (Or.inl ⟨by rfl, by rintro w ⟨hs1, hs2⟩; go_simp; try rfl⟩) (by assumption) ?_
  simp only [Act.put, List.setIfInBounds_toArray, List.set_cons_zero, List.set_cons_succ]
  refine wpAnyH_takeD (i := 4) (some 33) rfl (by kernel_rfl) (by kernel_rfl) (by kernel_rfl) rfl (fun _ _ _ h => h) (Or.inl ⟨by rfl, by rintro w ⟨hs1, hs2⟩; go_simp; try rfl⟩) (by assumption) ?_
  simp only [Act.put, List.setIfInBounds_toArray, List.set_cons_zero, List.set_cons_succ]
  refine wpAnyH_takeD (i := 5) (some 34) rfl (by kernel_rfl) (by kernel_rfl) (by kernel_rfl) rfl (fun _ _ _ h => h) (Or.inl ⟨by rfl, by rintro w ⟨hs1, hs2⟩; go_simp; try rfl⟩) (by assumption) ?_
  simp only [Act.put, List.setIfInBounds_toArray, List.set_cons_zero, List.set_cons_succ]
  refine wpAnyH_takeD (i := 6) (v := Value.int .i64 ((e i : Nat) : Int)) (some 35) rfl (by kernel_rfl) (by kernel_rfl) (by kernel_rfl) rfl (fun _ _ _ h => h) (Or.inl ⟨by rfl, by rintro w ⟨hs1, hs2⟩; go_simp; try rfl⟩) (by assumption) ?_
  simp only [Act.put, List.setIfInBounds_toArray, List.set_cons_zero, List.set_cons_succ]
  refine wpAnyH_takeD (i := 7) (some 36) rfl (by kernel_rfl) (by kernel_rfl) (by kernel_rfl) rfl (fun _ _ _ h => h) (Or.inl ⟨by rfl, by rintro w ⟨hs1, hs2⟩; go_simp; try rfl⟩) (by assumption) ?_
  simp only [Act.put, List.setIfInBounds_toArray, List.set_cons_zero, List.set_cons_succ]
  refine wpAnyH_takeD (i := 8) (v := Value.slice (some ⟨p, o', none⟩) k k) (some 37) rfl (by kernel_rfl) (by kernel_rfl) (by kernel_rfl) rfl (fun _ _ _ h => h) (Or.inl ⟨by rfl, by rintro w ⟨hs1, hs2⟩; go_simp; try rfl⟩) (by assumption) ?_
  simp only [Act.put, List.setIfInBounds_toArray, List.set_cons_zero, List.set_cons_succ]
  refine wpAnyH_ready (rs := [9]) (by kernel_rfl) (by simp) ?_
  refine AllReadyH.cons rfl (fun K hK => ?_) AllReadyH.nil
  go_simp
  refine cs.mono ?_
  rintro x w5 ⟨rfl, T5, H5⟩
  refine hK.out _ _ (HSE.out _ T5) (fun hHeld => ?_)
  clear hK
  try simp only [Act.put, List.setIfInBounds_toArray, List.set_cons_zero, List.set_cons_succ]
  refine wpAnyH_takeD (i := 10) (v := Value.tuple #[.int .i64 (kid : Int), .int .i64 0]) (some 28) rfl (by kernel_rfl) (by kernel_rfl) (by kernel_rfl) rfl (fun _ _ _ h => h) (Or.inl ⟨by rfl, by rintro w ⟨hs1, hs2⟩; go_simp; try rfl⟩) (by assumption) ?_
  simp only [Act.put, List.setIfInBounds_toArray, List.set_cons_zero, List.set_cons_succ]
  refine wpAnyH_takeD (i := 11) (v := Value.int .i64 (kid : Int)) (some 39) rfl (by kernel_rfl) (by kernel_rfl) (by kernel_rfl) rfl (fun _ _ _ h => h) (Or.inl ⟨by rfl, by rintro w ⟨hs1, hs2⟩; go_simp; try rfl⟩) (by assumption) ?_
  simp only [Act.put, List.setIfInBounds_toArray, List.set_cons_zero, List.set_cons_succ]
  refine wpAnyH_takeD (i := 12) (v := Value.int .i64 0) (some 40) rfl (by kernel_rfl) (by kernel_rfl) (by kernel_rfl) rfl (fun _ _ _ h => h) (Or.inl ⟨by rfl, by rintro w ⟨hs1, hs2⟩; go_simp; try rfl⟩) (by assumption) ?_
  simp only [Act.put, List.setIfInBounds_toArray, List.set_cons_zero, List.set_cons_succ]
  refine wpAnyH_takeD (i := 13) (v := Value.int .i64 (kid : Int)) (some 10) rfl (by kernel_rfl) (by kernel_rfl) (by kernel_rfl) rfl (fun _ _ _ h => h) (Or.inl ⟨by rfl, by rintro w ⟨hs1, hs2⟩; go_simp; try rfl⟩) (by assumption) ?_
  simp only [Act.put, List.setIfInBounds_toArray, List.set_cons_zero, List.set_cons_succ]
  refine wpAnyH_takeD (i := 14) (v := Value.int .i64 0) (some 9) rfl (by kernel_rfl) (by kernel_rfl) (by kernel_rfl) rfl (fun _ _ _ h => h) (Or.inl ⟨by rfl, by rintro w ⟨hs1, hs2⟩; go_simp; try rfl⟩) (by assumption) ?_
  simp only [Act.put, List.setIfInBounds_toArray, List.set_cons_zero, List.set_cons_succ]
  refine wpAnyH_done (by kernel_rfl) ?_ _
  have hld5 := HLD.out _ T5
  obtain ⟨g5, hg5⟩ : ∃ g5, w5.heap.size = g5 := ⟨_, rfl⟩
  have hst5 : (storeCells ⟨g5, 0, none⟩ (ndL e) 0).run Try.prog (w5.alloc (.cells #[.int .u8 0, .int .u8 0, .int .u8 0, .int .u8 0, .int .u8 0, .int .u8 0, .int .u8 0, .int .u8 0, .int .u8 0, .int .u8 0, .int .u8 0, .int .u8 0, .int .u8 0, .int .u8 0, .int .u8 0, .int .u8 0] 91)) = .ok () (w5.alloc (.cells (ndL e).toArray 91)) := by
    rw [← hg5]; exact run_storeCells_new (P := Try.prog) w5 91 nd0 (ndL e).toArray (nd_isa e) (by rw [nd_size]; rfl) (nd_one e)
  obtain ⟨w6, hw6⟩ : ∃ w6, w6 = w5.alloc (.cells (ndL e).toArray 91) := ⟨_, rfl⟩
  rw [← hw6] at hst5
  have q6 : Below w5.heap.size w5 w6 := by rw [hw6]; exact (Below.refl _ _).alloc (Nat.le_refl _) _
  have n6 : w6.heap[g5]? = some (.cells (ndL e).toArray 91 (0, 0)) := by rw [hw6, ← hg5]; exact heap_alloc_new _ _
  have f6 : w6.frozen? ⟨g5, i, none⟩ = false := by simp [World.frozen?, n6]
  have c6 : w6.cell? ⟨g5, i, none⟩ = some (.int .u8 ((e i : Nat) : Int)) := by
    simp only [World.cell?, n6]; simpa using ndL_get e i hi
  obtain ⟨w7, hw7⟩ : ∃ w7, w7 = w6.setCell ⟨g5, i, none⟩ (.int .u8 (kid : Int)) := ⟨_, rfl⟩
  have q7 : Below w5.heap.size w5 w7 := by rw [hw7]; exact q6.setCell (p := ⟨g5, i, none⟩) (Nat.le_of_eq hg5) _
  have n7 : w7.heap[g5]? = some (.cells (ndL (Tri.updE e i kid)).toArray 91 (0, 0)) := by
    rw [hw7, ← ndL_set]; simp [World.setCell, Array.getElem?_modify, n6]
  have hld7 := nd_cells n7
  have T6 : HTo w4.drew g m w6 := T5.trans (HTo.quiet q6)
  have T7 : HTo w4.drew g m w7 := T5.trans (HTo.quiet q7)
  have H7 := Lib.hid (H5.below q7)
  have HT7 := Lib.hid T7
  have cp6 := (HSE.out _ T6).1
  have hq := nd_eql (Tri.updE e i kid) (fun j hj => by
    by_cases ej : j = i
    · subst ej; rw [Tri.updE_same]; exact hk2
    · rw [Tri.updE_other ej]; exact HE.out j hj)
  clear T5 H5 T7 q6 q7 n6 n7 cs cp ce T6
  unfold nd0 at hq
  clear hw6
  go_upto_region 10 with (with_reducible refine wpList_load_run hld5 rfl _ rfl rfl ?_)
  clear hst5 hld5 hg5
  go_upto_region 11 with (fail)
  rw [← hw7]
  clear hw7 f6 c6 cp6
  have hq1 := hq false (by
    obtain ⟨j, hj, hne⟩ := hz
    exact ⟨fun z => (by cases z), fun z => absurd (z j hj) hne⟩)
  clear hq hz
  have D7 : Hp w7.drew h g m n u C2 Z2 X2 := H7.out.below ⟨rfl, rfl, rfl, Nat.le_refl _, fun _ _ => rfl⟩
  have T7d : HTo w4.drew g m w7.drew := HT7.out.trans (HTo.quiet ⟨rfl, rfl, rfl, Nat.le_refl _, fun _ _ => rfl⟩)
  have ce2 := HEND.out w7.drew D7
  have HT5 := Lib.hid T7d
  clear D7 T7d
  generalize ndL (Tri.updE e i kid) = es2 at *
  go_upto_region 13 with (with_reducible refine wpList_load_run hld7 rfl _ rfl rfl ?_)
  clear hq1 hld7
  refine wp_region_held_drew (S := fun V => V.cell? ⟨p, o, none⟩ = some (.int .i64 (i : Int)) ∧ (Instr.loadAt 91 (.pointer (some ⟨g3, 0, none⟩))).run Try.prog V = .ok (.agg (ndL e).toArray) V) (by kernel_rfl) ⟨(HSE.out _ HT5.out).1, HLD.out _ HT5.out⟩ (fun hHeld => ?_)
  refine wpAnyH_takeD (i := 0) (some 57) rfl (by kernel_rfl) (by kernel_rfl) (by kernel_rfl) rfl (fun _ _ _ h => h) (Or.inl ⟨by rfl, by rintro w ⟨hs1, hs2⟩; go_simp; try rfl⟩) (by assumption) ?_
  simp only [Act.put, List.setIfInBounds_toArray, List.set_cons_zero, List.set_cons_succ]
  refine wpAnyH_takeD (i := 1) (some 58) rfl (by kernel_rfl) (by kernel_rfl) (by kernel_rfl) rfl (fun _ _ _ h => h) (Or.inl ⟨by rfl, by rintro w ⟨hs1, hs2⟩; go_simp; try rfl⟩) (by assumption) ?_
  simp only [Act.put, List.setIfInBounds_toArray, List.set_cons_zero, List.set_cons_succ]
  refine wpAnyH_takeD (i := 2) (some 59) rfl (by kernel_rfl) (by kernel_rfl) (by kernel_rfl) rfl (fun _ _ _ h => h) (yieldsIf_load_run (by rfl) _ rfl rfl (fun w hS => hS.2)) (by assumption) ?_
  simp only [Act.put, List.setIfInBounds_toArray, List.set_cons_zero, List.set_cons_succ]
  refine wpAnyH_takeD (i := 3) (some 60) rfl (by kernel_rfl) (by kernel_rfl) (by kernel_rfl) rfl (fun _ _ _ h => h) (Or.inl ⟨by rfl, by rintro w ⟨hs1, hs2⟩; go_simp; try rfl⟩) (by assumption) ?_
  simp only [Act.put, List.setIfInBounds_toArray, List.set_cons_zero, List.set_cons_succ]
  refine wpAnyH_takeD (i := 4) (some 61) rfl (by kernel_rfl) (by kernel_rfl) (by kernel_rfl) rfl (fun _ _ _ h => h) (Or.inl ⟨by rfl, by rintro w ⟨hs1, hs2⟩; go_simp; try rfl⟩) (by assumption) ?_
  simp only [Act.put, List.setIfInBounds_toArray, List.set_cons_zero, List.set_cons_succ]
  refine wpAnyH_takeD (i := 5) (some 62) rfl (by kernel_rfl) (by kernel_rfl) (by kernel_rfl) rfl (fun _ _ _ h => h) (Or.inl ⟨by rfl, by rintro w ⟨hs1, hs2⟩; go_simp; try rfl⟩) (by assumption) ?_
  simp only [Act.put, List.setIfInBounds_toArray, List.set_cons_zero, List.set_cons_succ]
  refine wpAnyH_takeD (i := 6) (some 63) rfl (by kernel_rfl) (by kernel_rfl) (by kernel_rfl) rfl (fun _ _ _ h => h) (Or.inl ⟨by rfl, by rintro w ⟨hs1, hs2⟩; go_simp; try rfl⟩) (by assumption) ?_
  simp only [Act.put, List.setIfInBounds_toArray, List.set_cons_zero, List.set_cons_succ]
  refine wpAnyH_ready (rs := [7]) (by kernel_rfl) (by simp) ?_
  refine AllReadyH.cons rfl (fun K hK => ?_) AllReadyH.nil
  go_simp
  refine ce2.mono ?_
  rintro x w8 ⟨rfl, T6, H6⟩
  refine hK.out _ _ ⟨(HSE.out _ (HT5.out.trans T6)).1, HLD.out _ (HT5.out.trans T6)⟩ (fun hHeld => ?_)
  clear hK
  try simp only [Act.put, List.setIfInBounds_toArray, List.set_cons_zero, List.set_cons_succ]
  refine wpAnyH_takeD (i := 8) (v := Value.int .i64 (t : Int)) (some 65) rfl (by kernel_rfl) (by kernel_rfl) (by kernel_rfl) rfl (fun _ _ _ h => h) (Or.inl ⟨by rfl, by rintro w ⟨hs1, hs2⟩; go_simp; try rfl⟩) (by assumption) ?_
  simp only [Act.put, List.setIfInBounds_toArray, List.set_cons_zero, List.set_cons_succ]
  refine wpAnyH_takeD (i := 9) (v := Value.int .i64 0) (some 66) rfl (by kernel_rfl) (by kernel_rfl) (by kernel_rfl) rfl (fun _ _ _ h => h) (Or.inl ⟨by rfl, by rintro w ⟨hs1, hs2⟩; go_simp; try rfl⟩) (by assumption) ?_
  simp only [Act.put, List.setIfInBounds_toArray, List.set_cons_zero, List.set_cons_succ]
  refine wpAnyH_takeD (i := 10) (v := Value.int .i64 (t : Int)) (some 6) rfl (by kernel_rfl) (by kernel_rfl) (by kernel_rfl) rfl (fun _ _ _ h => h) (Or.inl ⟨by rfl, by rintro w ⟨hs1, hs2⟩; go_simp; try rfl⟩) (by assumption) ?_
  simp only [Act.put, List.setIfInBounds_toArray, List.set_cons_zero, List.set_cons_succ]
  refine wpAnyH_takeD (i := 11) (v := Value.int .i64 0) (some 7) rfl (by kernel_rfl) (by kernel_rfl) (by kernel_rfl) rfl (fun _ _ _ h => h) (Or.inl ⟨by rfl, by rintro w ⟨hs1, hs2⟩; go_simp; try rfl⟩) (by assumption) ?_
  simp only [Act.put, List.setIfInBounds_toArray, List.set_cons_zero, List.set_cons_succ]
  refine wpAnyH_done (by kernel_rfl) ?_ _
  have hfin := Lib.hid (show HTo w g m w8 from (HK4.out.trans HT5.out).trans T6)
  have hfin2 := Lib.hid H6
  clear T6 H6 ce2
  go_wp2_with (fail)
  go_ret2
  exact ⟨rfl, hfin.out, hfin2.out⟩
end
end Go.Proofs.Ytlbjfigdocbffaa
