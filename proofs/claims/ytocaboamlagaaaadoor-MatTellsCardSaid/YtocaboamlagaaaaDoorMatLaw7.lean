/- mat's laws: matrices are made, multiplied and undone as the document says. -/
import Derived.Test.YtocaboamlagaaaaDoorMatRef3
namespace Go.Proofs.YtocaboamlagaaaaDoor
open Go.RowKit
set_option linter.unusedVariables false
set_option linter.unusedSimpArgs false

theorem cyL_rect (k m : Int) : ∃ a b, a ≤ 16 ∧ b ≤ 16 ∧ Rect (cyL k m) a b := by
  rw [cyL]
  cases h1 : fitsB k <;> cases h2 : fitsB m
  · exact ⟨0, 0, by omega, by omega, rfl, fun i hi => by omega⟩
  · exact ⟨0, 0, by omega, by omega, rfl, fun i hi => by omega⟩
  · exact ⟨0, 0, by omega, by omega, rfl, fun i hi => by omega⟩
  · refine ⟨m.toNat, k.toNat, ?_, ?_, mkM_rect _ _ _⟩
    · simp [fitsB] at h2; omega
    · simp [fitsB] at h1; omega
theorem idL_rect (n : Int) : ∃ a, a ≤ 16 ∧ Rect (idL n) a a := by
  rw [idL]
  cases h1 : fitsB n
  · exact ⟨0, by omega, rfl, fun i hi => by omega⟩
  · refine ⟨n.toNat, ?_, mkM_rect _ _ _⟩
    simp [fitsB] at h1; omega
theorem mulL_fits (a b : List ByteArray) : Fits (mulL a b) := by
  rw [mulL]
  split
  · rename_i h
    unfold mulOk at h
    simp only [Bool.and_eq_true] at h
    obtain ⟨⟨h1, h2⟩, h3⟩ := h
    obtain ⟨k1, k2, k3, k4, k5⟩ := mR_facts h1
    obtain ⟨l1, l2, l3, l4, l5⟩ := mR_facts h2
    refine Fits.small (by rw [List.length_map]; omega) fun i hi => ?_
    rw [List.length_map] at hi
    rw [List.getD_eq_getElem?_getD, List.getElem?_map, List.getElem?_eq_getElem hi]
    show (comb _ b b.length).size ≤ _
    rw [comb_size]; omega
  · exact Fits.nil
theorem invL_fits (a : List ByteArray) : Fits (invL a) := by
  by_cases h : sqB a = true
  · obtain ⟨h1, h2, h3, h4⟩ := sqB_facts h
    rcases inv_cases ⟨rfl, h4⟩ h2 h3 with ⟨_, r, _⟩ | ⟨_, r, _⟩
    · exact r.fits (by omega) (by omega)
    · rw [r]; exact Fits.nil
  · rw [invL, if_neg h]; exact Fits.nil
set_option maxRecDepth 100000 in
set_option maxHeartbeats 4000000 in
theorem makes_walk (k m : Int) (w : World) (ht : Tabs w) (h1 : -9223372036854775808 ≤ k) (h2 : k ≤ 9223372036854775807) (h3 : -9223372036854775808 ≤ m) (h4 : m ≤ 9223372036854775807) :
    Calls Tryd.prog 4 #[.int .i64 k, .int .i64 m] w (Says w (.bool true)) := by
  obtain ⟨_, _, c1, c2, c3⟩ := cyL_rect k m
  obtain ⟨_, d1, d3⟩ := idL_rect k
  have fc := c3.fits (by omega) (by omega)
  have fd := d3.fits (by omega) (by omega)
  have ca := fun W hW => cauchy_any k m W hW
  have cb := fun W => rcauchy_any k m W
  have cc := fun W => identity_any k W
  have cd := fun W => ridentity_any k W h2
  have s1 := fun W va vb ha hb => same_any va vb (cyL k m) (cyL k m) W ha hb fc fc
  have s2 := fun W va vb ha hb => same_any va vb (idL k) (idL k) W ha hb fd fd
  rw [sameL_self] at s1 s2
  generalize cyL k m = C at *
  generalize idL k = I at *
  generalize cyE k m = x at *
  generalize idE k = y at *
  go_enter Tryd.func4, Tryd.ntmps4
  go_wp2_with (fail)
  refine (awake_any _ ht).mono ?_
  rintro e w1 ⟨rfl, b1⟩
  have t1 := ht.below b1 ht.two
  go_wp2_with (fail)
  refine (ca _ t1).mono ?_
  rintro e w2 ⟨v2, rfl, o2, b2⟩
  have t2 := t1.below b2 t1.two
  have r2_a := o2.reads
  go_wp2_with (fail)
  refine (cb _).mono ?_
  rintro e w3 ⟨v3, rfl, o3, b3⟩
  have t3 := t2.below b3 t2.two
  have r3_a := r2_a.below b3
  have r3_b := o3.reads
  go_wp2_with (fail)
  refine (cc _).mono ?_
  rintro e w4 ⟨v4, rfl, o4, b4⟩
  have t4 := t3.below b4 t3.two
  have r4_a := r3_a.below b4
  have r4_b := r3_b.below b4
  have r4_c := o4.reads
  go_wp2_with (fail)
  refine (cd _).mono ?_
  rintro e w5 ⟨v5, rfl, o5, b5⟩
  have t5 := t4.below b5 t4.two
  have r5_a := r4_a.below b5
  have r5_b := r4_b.below b5
  have r5_c := r4_c.below b5
  have r5_d := o5.reads
  go_wp2_with (fail)
  refine (s1 _ _ _ r5_a r5_b).mono ?_
  rintro e w6 ⟨rfl, b6⟩
  have t6 := t5.below b6 t5.two
  have r6_a := r5_a.below b6
  have r6_b := r5_b.below b6
  have r6_c := r5_c.below b6
  have r6_d := r5_d.below b6
  go_wp2_with (fail)
  refine (s2 _ _ _ r6_c r6_d).mono ?_
  rintro e w7 ⟨rfl, b7⟩
  have t7 := t6.below b7 t6.two
  have r7_c := r6_c.below b7
  have r7_d := r6_d.below b7
  go_wp2_with (fail)
  go_ret
  exact ⟨rfl, below_c (below_c (below_c (below_c (below_c (below_c b1 b2) b3) b4) b5) b6) b7⟩
theorem mR_long {l : List ByteArray} (h : 16 < l.length) : mR l = false := by unfold mR; rw [decide_eq_false (by omega)]; rfl
set_option maxRecDepth 100000 in
set_option maxHeartbeats 4000000 in
theorem tells_long (va vb : Value) (a b : List ByteArray) (w : World) (ht : Tabs w) (hA : Reads w va (tx a)) (hB : Reads w vb (tx b)) (fa : Fits a) (fb : Fits b) (h : 20 < a.length ∨ 20 < b.length) :
    Calls Tryd.prog 3 #[va, vb] w (Says w (.bool true)) := by
  have fan := fa.n
  have fbn := fb.n
  have la := fun W => hA.len_run (P := Tryd.prog) Tryd.underlying22 3 W
  have lb := fun W => hB.len_run (P := Tryd.prog) Tryd.underlying22 3 W
  rw [List.length_map] at la lb
  have ra := fun W (hW : Below w.heap.size w W) => right_r va a W (hA.below hW) fa
  have rb := fun W (hW : Below w.heap.size w W) => right_r vb b W (hB.below hW) fb
  by_cases ha : 20 < a.length
  · have e1 : decide (20 < (a.length : Int)) = true := by simp; omega
    have e2 : decide ((a.length : Int) ≤ 20) = false := by simp; omega
    rw [mR_long (by omega)] at ra
    by_cases hb : 20 < b.length
    · have e3 : decide (20 < (b.length : Int)) = true := by simp; omega
      have e4 : decide ((b.length : Int) ≤ 20) = false := by simp; omega
      rw [mR_long (by omega)] at rb
      clear h ha hb
      go_enter Tryd.func3, Tryd.ntmps3
      go_wp2_with (fail)
      refine (awake_any _ ht).mono ?_
      rintro e w1 ⟨rfl, b1⟩
      go_wp2_with (fail)
      refine (ra _ b1).mono ?_
      rintro e wq ⟨rfl, rfl⟩
      go_wp2_with (fail)
      refine (rb _ b1).mono ?_
      rintro e wq ⟨rfl, rfl⟩
      go_wp2_with (fail)
      go_ret
      exact ⟨rfl, b1⟩
    · have e3 : decide (20 < (b.length : Int)) = false := by simp; omega
      have e4 : decide ((b.length : Int) ≤ 20) = true := by simp; omega
      clear h ha hb
      go_enter Tryd.func3, Tryd.ntmps3
      go_wp2_with (fail)
      refine (awake_any _ ht).mono ?_
      rintro e w1 ⟨rfl, b1⟩
      go_wp2_with (fail)
      refine (ra _ b1).mono ?_
      rintro e wq ⟨rfl, rfl⟩
      go_wp2_with (fail)
      go_ret
      exact ⟨rfl, b1⟩
  · have e1 : decide (20 < (a.length : Int)) = false := by simp; omega
    have e2 : decide ((a.length : Int) ≤ 20) = true := by simp; omega
    have hb : 20 < b.length := by omega
    have e3 : decide (20 < (b.length : Int)) = true := by simp; omega
    have e4 : decide ((b.length : Int) ≤ 20) = false := by simp; omega
    rw [mR_long (by omega)] at rb
    clear h ha hb
    go_enter Tryd.func3, Tryd.ntmps3
    go_wp2_with (fail)
    refine (awake_any _ ht).mono ?_
    rintro e w1 ⟨rfl, b1⟩
    go_wp2_with (fail)
    refine (rb _ b1).mono ?_
    rintro e wq ⟨rfl, rfl⟩
    go_wp2_with (fail)
    go_ret
    exact ⟨rfl, b1⟩
set_option maxRecDepth 100000 in
set_option maxHeartbeats 4000000 in
theorem tells_short (va vb : Value) (a b : List ByteArray) (w : World) (ht : Tabs w) (hA : Reads w va (tx a)) (hB : Reads w vb (tx b)) (fa : Fits a) (fb : Fits b) (ha : a.length ≤ 20) (hb : b.length ≤ 20) :
    Calls Tryd.prog 3 #[va, vb] w (Says w (.bool true)) := by
  obtain ⟨i0, hi, hz0, hz1, hz2⟩ := info_parts Tryd.infoS
  have la := fun W => hA.len_run (P := Tryd.prog) Tryd.underlying22 3 W
  have lb := fun W => hB.len_run (P := Tryd.prog) Tryd.underlying22 3 W
  rw [List.length_map] at la lb
  have e1 : decide (20 < (a.length : Int)) = false := by simp; omega
  have e3 : decide (20 < (b.length : Int)) = false := by simp; omega
  have cx := fun W hW u v hu hv => mxmul_any u v a b W hW hu hv fa fb
  have cy := fun W u v hu hv => rmxmul_any u v a b W hu hv fa fb
  have cp := fun W hW u hu => inverse_any u a W hW hu fa
  have cq := fun W u hu => rinverse_any u a W hu fa
  have cr := fun W u hu => right_r u a W hu fa
  have cs := fun W u hu => rright_any u a W hu fa
  have s1 := fun W u v hu hv => same_any u v (mulL a b) (mulL a b) W hu hv (mulL_fits a b) (mulL_fits a b)
  have s2 := fun W u v hu hv => same_any u v (invL a) (invL a) W hu hv (invL_fits a) (invL_fits a)
  have s3 := fun W u v hu hv => same_any u v a a W hu hv fa fa
  have s4 := fun W u v hu hv => same_any u v b b W hu hv fb fb
  rw [sameL_self] at s1 s2 s3 s4
  generalize mulL a b = ML at *
  generalize mulE a b = ME at *
  generalize invL a = IL at *
  generalize invE a = IE at *
  generalize mR a = R at *
  have fan := fa.n
  have fbn := fb.n
  go_enter Tryd.func3, Tryd.ntmps3
  go_wp2_with (fail)
  refine (awake_any _ ht).mono ?_
  rintro e w1 ⟨rfl, b1⟩
  have t1 := ht.below b1 ht.two
  have r1_A := hA.below b1
  have r1_B := hB.below b1
  obtain ⟨v2, w2, hap2, o2, b2⟩ := Reads.copy_run (P := Tryd.prog) (T := 22) Tryd.underlying22 hi hz0 hz1 hz2 rfl r1_A (tx_one a) (by rw [List.length_map]; omega) (by rw [List.length_map]; omega)
  have t2 := t1.below b2 t1.two
  have r2_A := r1_A.below b2
  have r2_B := r1_B.below b2
  have r2_o := o2.reads
  obtain ⟨v3, w3, hap3, o3, b3⟩ := Reads.copy_run (P := Tryd.prog) (T := 22) Tryd.underlying22 hi hz0 hz1 hz2 rfl r2_B (tx_one b) (by rw [List.length_map]; omega) (by rw [List.length_map]; omega)
  have t3 := t2.below b3 t2.two
  have r3_A := r2_A.below b3
  have r3_B := r2_B.below b3
  have r3_o := r2_o.below b3
  have r3_l := o3.reads
  go_wp2_with (first | (at_builtin; refine wpList_append_run hap2 _ _ rfl rfl rfl rfl rfl ?_) | (at_builtin; refine wpList_append_run hap3 _ _ rfl rfl rfl rfl rfl ?_))
  refine (cx _ t3 _ _ r3_o r3_l).mono ?_
  rintro e w4 ⟨v4, rfl, o4, b4⟩
  have t4 := t3.below b4 t3.two
  have r4_A := r3_A.below b4
  have r4_B := r3_B.below b4
  have r4_o := r3_o.below b4
  have r4_l := r3_l.below b4
  have r4_x := o4.reads
  go_wp2_with (fail)
  refine (cy _ _ _ r4_A r4_B).mono ?_
  rintro e w5 ⟨v5, rfl, o5, b5⟩
  have t5 := t4.below b5 t4.two
  have r5_A := r4_A.below b5
  have r5_B := r4_B.below b5
  have r5_o := r4_o.below b5
  have r5_l := r4_l.below b5
  have r5_x := r4_x.below b5
  have r5_y := o5.reads
  go_wp2_with (fail)
  refine (cp _ t5 _ r5_o).mono ?_
  rintro e w6 ⟨v6, rfl, o6, b6⟩
  have t6 := t5.below b6 t5.two
  have r6_A := r5_A.below b6
  have r6_B := r5_B.below b6
  have r6_o := r5_o.below b6
  have r6_l := r5_l.below b6
  have r6_x := r5_x.below b6
  have r6_y := r5_y.below b6
  have r6_p := o6.reads
  go_wp2_with (fail)
  refine (cq _ _ r6_A).mono ?_
  rintro e w7 ⟨v7, rfl, o7, b7⟩
  have t7 := t6.below b7 t6.two
  have r7_A := r6_A.below b7
  have r7_B := r6_B.below b7
  have r7_o := r6_o.below b7
  have r7_l := r6_l.below b7
  have r7_x := r6_x.below b7
  have r7_y := r6_y.below b7
  have r7_p := r6_p.below b7
  have r7_q := o7.reads
  go_wp2_with (fail)
  refine (cr _ _ r7_o).mono ?_
  rintro e wq ⟨rfl, rfl⟩
  go_wp2_with (fail)
  refine (cs _ _ r7_A).mono ?_
  rintro e w8 ⟨rfl, b8⟩
  have t8 := t7.below b8 t7.two
  have r8_A := r7_A.below b8
  have r8_B := r7_B.below b8
  have r8_o := r7_o.below b8
  have r8_l := r7_l.below b8
  have r8_x := r7_x.below b8
  have r8_y := r7_y.below b8
  have r8_p := r7_p.below b8
  have r8_q := r7_q.below b8
  go_wp2_with (fail)
  refine (s1 _ _ _ r8_x r8_y).mono ?_
  rintro e w9 ⟨rfl, b9⟩
  have t9 := t8.below b9 t8.two
  have r9_A := r8_A.below b9
  have r9_B := r8_B.below b9
  have r9_o := r8_o.below b9
  have r9_l := r8_l.below b9
  have r9_x := r8_x.below b9
  have r9_y := r8_y.below b9
  have r9_p := r8_p.below b9
  have r9_q := r8_q.below b9
  go_wp2_with (fail)
  refine (s2 _ _ _ r9_p r9_q).mono ?_
  rintro e w10 ⟨rfl, b10⟩
  have t10 := t9.below b10 t9.two
  have r10_A := r9_A.below b10
  have r10_B := r9_B.below b10
  have r10_o := r9_o.below b10
  have r10_l := r9_l.below b10
  have r10_p := r9_p.below b10
  have r10_q := r9_q.below b10
  go_wp2_with (fail)
  refine (s3 _ _ _ r10_o r10_A).mono ?_
  rintro e w11 ⟨rfl, b11⟩
  have t11 := t10.below b11 t10.two
  have r11_A := r10_A.below b11
  have r11_B := r10_B.below b11
  have r11_o := r10_o.below b11
  have r11_l := r10_l.below b11
  go_wp2_with (fail)
  refine (s4 _ _ _ r11_l r11_B).mono ?_
  rintro e w12 ⟨rfl, b12⟩
  have t12 := t11.below b12 t11.two
  have r12_B := r11_B.below b12
  have r12_l := r11_l.below b12
  go_wp2_with (fail)
  go_ret
  exact ⟨rfl, below_c (below_c (below_c (below_c (below_c (below_c (below_c (below_c (below_c (below_c (below_c b1 b2) b3) b4) b5) b6) b7) b8) b9) b10) b11) b12⟩
theorem mtells_walk (va vb : Value) (a b : List ByteArray) (w : World) (ht : Tabs w) (hA : Reads w va (tx a)) (hB : Reads w vb (tx b)) (fa : Fits a) (fb : Fits b) :
    Calls Tryd.prog 3 #[va, vb] w (Says w (.bool true)) := by
  by_cases h : 20 < a.length ∨ 20 < b.length
  · exact tells_long va vb a b w ht hA hB fa fb h
  · exact tells_short va vb a b w ht hA hB fa fb (by omega) (by omega)
end Go.Proofs.YtocaboamlagaaaaDoor
