/- mat's laws: a product goes over a sum; the identity changes nothing. -/
import Derived.Test.YtocaboamlagaaaaDoorMatSum
namespace Go.Proofs.YtocaboamlagaaaaDoor
open Go.RowKit
set_option linter.unusedVariables false
set_option linter.unusedSimpArgs false

theorem over_left {a b c : List ByteArray} {n : Nat} (ha : Rect a n n) (hb : Rect b n n) (hc : Rect c n n) (h1 : 1 ≤ n) (h2 : n ≤ 16) : mulL a (sumL b c n n) = sumL (mulL a b) (mulL a c) n n := by
  obtain ⟨_, p2, p3⟩ := mulL_sq ha hb h1 h2
  obtain ⟨_, q2, q3⟩ := mulL_sq ha hc h1 h2
  obtain ⟨_, r2, r3⟩ := mulL_sq ha (sumL_rect b c n n) h1 h2
  refine r2.ext (sumL_rect _ _ n n) fun i j hi hj => ?_
  rw [r3 i j hi hj, sumL_el _ _ hi hj, p3 i j hi hj, q3 i j hi hj]
  show Mx.S n _ = Mx.S n _ + Mx.S n _
  rw [← Mx.S_add]
  exact Mx.S_congr fun k hk => by rw [sumL_el b c hk hj, Mx.mul_add]
theorem over_right {a b c : List ByteArray} {n : Nat} (ha : Rect a n n) (hb : Rect b n n) (hc : Rect c n n) (h1 : 1 ≤ n) (h2 : n ≤ 16) : mulL (sumL b c n n) a = sumL (mulL b a) (mulL c a) n n := by
  obtain ⟨_, p2, p3⟩ := mulL_sq hb ha h1 h2
  obtain ⟨_, q2, q3⟩ := mulL_sq hc ha h1 h2
  obtain ⟨_, r2, r3⟩ := mulL_sq (sumL_rect b c n n) ha h1 h2
  refine r2.ext (sumL_rect _ _ n n) fun i j hi hj => ?_
  rw [r3 i j hi hj, sumL_el _ _ hi hj, p3 i j hi hj, q3 i j hi hj]
  show Mx.S n _ = Mx.S n _ + Mx.S n _
  rw [← Mx.S_add]
  exact Mx.S_congr fun k hk => by rw [sumL_el b c hi hk, Mx.add_mul]
theorem one_left {a : List ByteArray} {n : Nat} (ha : Rect a n n) (h1 : 1 ≤ n) (h2 : n ≤ 16) : mulL (mkM idEl n n) a = a := by
  obtain ⟨_, p2, p3⟩ := mulL_sq (mkM_rect idEl n n) ha h1 h2
  refine p2.ext ha fun i j hi hj => ?_
  rw [p3 i j hi hj, Mx.mul_congr (A' := Mx.one) (B' := el a) (fun k hk => id_el hi hk) (fun _ _ => rfl), Mx.one_mul_at _ hi]
theorem one_right {a : List ByteArray} {n : Nat} (ha : Rect a n n) (h1 : 1 ≤ n) (h2 : n ≤ 16) : mulL a (mkM idEl n n) = a := by
  obtain ⟨_, p2, p3⟩ := mulL_sq ha (mkM_rect idEl n n) h1 h2
  refine p2.ext ha fun i j hi hj => ?_
  rw [p3 i j hi hj, Mx.mul_congr (A' := el a) (B' := Mx.one) (fun _ _ => rfl) (fun k hk => id_el hk hj), Mx.mul_one_at _ _ hj]
set_option maxRecDepth 100000 in
set_option maxHeartbeats 4000000 in
theorem over_walk (s : ByteArray) (t : ByteArray) (u : ByteArray) (n : Int) (w : World) (ht : Tabs w) (h1 : -9223372036854775808 ≤ n) (h2 : n ≤ 9223372036854775807) (hzs : s.size ≤ 140737488351232) (hzt : t.size ≤ 140737488351232) (hzu : u.size ≤ 140737488351232) :
    Calls Tryd.prog 9 #[.string s, .string t, .string u, .int .i64 n] w (Says w (.bool true)) := by
  obtain ⟨p, hp, hpick⟩ := pick_nat n 5 h1 h2 (by decide) (by decide)
  obtain ⟨N, hN⟩ : ∃ N : Nat, N = 1 + p := ⟨_, rfl⟩
  have hN1 : 1 + (p : Int) = (N : Int) := by omega
  have n1 : 1 ≤ N := by omega
  have n2 : N ≤ 5 := by omega
  have n3 : N ≤ 16 := by omega
  clear hN
  have hsqa := fun W => square_any s N W n3 (by omega)
  have ra := squareL_rect s N
  generalize squareL s N = a at *
  have fa := ra.fits (by omega) (by omega)
  have hsqb := fun W => square_any t N W n3 (by omega)
  have rb := squareL_rect t N
  generalize squareL t N = b at *
  have fb := rb.fits (by omega) (by omega)
  have hsqc := fun W => square_any u N W n3 (by omega)
  have rc := squareL_rect u N
  generalize squareL u N = c at *
  have fc := rc.fits (by omega) (by omega)
  have rd := sumL_rect b c N N
  have fd := rd.fits (by omega) (by omega)
  have rI := mkM_rect idEl N N
  have fI := rI.fits (by omega) (by omega)
  obtain ⟨x1, rx, _⟩ := mulL_sq ra rd n1 n3
  obtain ⟨y1, ry, _⟩ := mulL_sq ra rb n1 n3
  obtain ⟨z1, rz, _⟩ := mulL_sq ra rc n1 n3
  obtain ⟨p1, rp, _⟩ := mulL_sq rd ra n1 n3
  obtain ⟨q1, rq, _⟩ := mulL_sq rb ra n1 n3
  obtain ⟨e1, re, _⟩ := mulL_sq rc ra n1 n3
  obtain ⟨o1, ro, _⟩ := mulL_sq rI ra n1 n3
  obtain ⟨u1, ru, _⟩ := mulL_sq ra rI n1 n3
  have rs1 := sumL_rect (mulL a b) (mulL a c) N N
  have rs2 := sumL_rect (mulL b a) (mulL c a) N N
  have fs1 := rs1.fits (by omega) (by omega)
  have fs2 := rs2.fits (by omega) (by omega)
  have cx := fun W hW va vb ha hb => mxmul_any va vb a (sumL b c N N) W hW ha hb fa fd
  have cy := fun W hW va vb ha hb => mxmul_any va vb a b W hW ha hb fa fb
  have cz := fun W hW va vb ha hb => mxmul_any va vb a c W hW ha hb fa fc
  have cp := fun W hW va vb ha hb => mxmul_any va vb (sumL b c N N) a W hW ha hb fd fa
  have cq := fun W hW va vb ha hb => mxmul_any va vb b a W hW ha hb fb fa
  have cr := fun W hW va vb ha hb => mxmul_any va vb c a W hW ha hb fc fa
  have co := fun W hW va vb ha hb => mxmul_any va vb (mkM idEl N N) a W hW ha hb fI fa
  have cu := fun W hW va vb ha hb => mxmul_any va vb a (mkM idEl N N) W hW ha hb fa fI
  have cd := fun W va vb ha hb => sum_any va vb b c N W ha hb rb rc n1 n3
  have cs1 := fun W va vb ha hb => sum_any va vb (mulL a b) (mulL a c) N W ha hb ry rz n1 n3
  have cs2 := fun W va vb ha hb => sum_any va vb (mulL b a) (mulL c a) N W ha hb rq re n1 n3
  have k1 := fun W va vb ha hb => same_any va vb (sumL (mulL a b) (mulL a c) N N) (sumL (mulL a b) (mulL a c) N N) W ha hb fs1 fs1
  have k2 := fun W va vb ha hb => same_any va vb (sumL (mulL b a) (mulL c a) N N) (sumL (mulL b a) (mulL c a) N N) W ha hb fs2 fs2
  have k3 := fun W va vb ha hb => same_any va vb a a W ha hb fa fa
  obtain ⟨hid1, hid2⟩ := idL_nat n1 n3
  have hid := fun W => identity_any (N : Int) W
  rw [hid1, hid2] at hid
  rw [x1, over_left ra rb rc n1 n3] at cx
  rw [y1] at cy
  rw [z1] at cz
  rw [p1, over_right ra rb rc n1 n3] at cp
  rw [q1] at cq
  rw [e1] at cr
  rw [o1, one_left ra n1 n3] at co
  rw [u1, one_right ra n1 n3] at cu
  rw [sameL_self] at k1 k2 k3
  have ly := Lib.hid ry.l
  have lz := Lib.hid rz.l
  have lq := Lib.hid rq.l
  have le := Lib.hid re.l
  clear x1 y1 z1 p1 q1 e1 o1 u1 rx ry rz rp rq re ro ru rs1 rs2 fs1 fs2 hid1 hid2
  generalize sumL (mulL a b) (mulL a c) N N = S1 at *
  generalize sumL (mulL b a) (mulL c a) N N = S2 at *
  generalize mulL a b = y at *
  generalize mulL a c = z at *
  generalize mulL b a = q at *
  generalize mulL c a = r at *
  generalize sumL b c N N = d at *
  generalize mkM idEl N N = I at *
  go_enter Tryd.func9, Tryd.ntmps9
  go_wp2_with (fail)
  refine (awake_any _ ht).mono ?_
  rintro e w1 ⟨rfl, b1⟩
  have t1 := ht.below b1 ht.two
  go_wp2_with (fail)
  refine (hpick _).mono ?_
  rintro e wq ⟨rfl, rfl⟩
  go_wp2_with (fail)
  refine (hsqa _).mono ?_
  rintro e w2 ⟨v2, rfl, o2, b2⟩
  have t2 := t1.below b2 t1.two
  have r2_a := o2.reads
  go_wp2_with (fail)
  refine (hsqb _).mono ?_
  rintro e w3 ⟨v3, rfl, o3, b3⟩
  have t3 := t2.below b3 t2.two
  have r3_a := r2_a.below b3
  have r3_b := o3.reads
  go_wp2_with (fail)
  refine (hsqc _).mono ?_
  rintro e w4 ⟨v4, rfl, o4, b4⟩
  have t4 := t3.below b4 t3.two
  have r4_a := r3_a.below b4
  have r4_b := r3_b.below b4
  have r4_c := o4.reads
  go_wp2_with (fail)
  refine (cd _ _ _ r4_b r4_c).mono ?_
  rintro e w5 ⟨v5, rfl, o5, b5⟩
  have t5 := t4.below b5 t4.two
  have r5_a := r4_a.below b5
  have r5_b := r4_b.below b5
  have r5_c := r4_c.below b5
  have r5_d := o5.reads
  go_wp2_with (fail)
  refine (cx _ t5 _ _ r5_a r5_d).mono ?_
  rintro e w6 ⟨v6, rfl, o6, b6⟩
  have t6 := t5.below b6 t5.two
  have r6_a := r5_a.below b6
  have r6_b := r5_b.below b6
  have r6_c := r5_c.below b6
  have r6_d := r5_d.below b6
  have r6_x := o6.reads
  go_wp2_with (fail)
  refine (cy _ t6 _ _ r6_a r6_b).mono ?_
  rintro e w7 ⟨v7, rfl, o7, b7⟩
  have t7 := t6.below b7 t6.two
  have r7_a := r6_a.below b7
  have r7_b := r6_b.below b7
  have r7_c := r6_c.below b7
  have r7_x := r6_x.below b7
  have r7_y := o7.reads
  go_wp2_with (fail)
  refine (cz _ t7 _ _ r7_a r7_c).mono ?_
  rintro e w8 ⟨v8, rfl, o8, b8⟩
  have t8 := t7.below b8 t7.two
  have r8_a := r7_a.below b8
  have r8_b := r7_b.below b8
  have r8_c := r7_c.below b8
  have r8_x := r7_x.below b8
  have r8_y := r7_y.below b8
  have r8_z := o8.reads
  go_wp2_with (fail)
  refine (cd _ _ _ r8_b r8_c).mono ?_
  rintro e w9 ⟨v9, rfl, o9, b9⟩
  have t9 := t8.below b9 t8.two
  have r9_a := r8_a.below b9
  have r9_b := r8_b.below b9
  have r9_c := r8_c.below b9
  have r9_x := r8_x.below b9
  have r9_y := r8_y.below b9
  have r9_z := r8_z.below b9
  have r9_d := o9.reads
  go_wp2_with (fail)
  refine (cp _ t9 _ _ r9_d r9_a).mono ?_
  rintro e w10 ⟨v10, rfl, o10, b10⟩
  have t10 := t9.below b10 t9.two
  have r10_a := r9_a.below b10
  have r10_b := r9_b.below b10
  have r10_c := r9_c.below b10
  have r10_x := r9_x.below b10
  have r10_y := r9_y.below b10
  have r10_z := r9_z.below b10
  have r10_d := r9_d.below b10
  have r10_p := o10.reads
  go_wp2_with (fail)
  refine (cq _ t10 _ _ r10_b r10_a).mono ?_
  rintro e w11 ⟨v11, rfl, o11, b11⟩
  have t11 := t10.below b11 t10.two
  have r11_a := r10_a.below b11
  have r11_b := r10_b.below b11
  have r11_c := r10_c.below b11
  have r11_x := r10_x.below b11
  have r11_y := r10_y.below b11
  have r11_z := r10_z.below b11
  have r11_p := r10_p.below b11
  have r11_q := o11.reads
  go_wp2_with (fail)
  refine (cr _ t11 _ _ r11_c r11_a).mono ?_
  rintro e w12 ⟨v12, rfl, o12, b12⟩
  have t12 := t11.below b12 t11.two
  have r12_a := r11_a.below b12
  have r12_b := r11_b.below b12
  have r12_c := r11_c.below b12
  have r12_x := r11_x.below b12
  have r12_y := r11_y.below b12
  have r12_z := r11_z.below b12
  have r12_p := r11_p.below b12
  have r12_q := r11_q.below b12
  have r12_r := o12.reads
  go_wp2_with (fail)
  refine (hid _).mono ?_
  rintro e w13 ⟨v13, rfl, o13, b13⟩
  have t13 := t12.below b13 t12.two
  have r13_a := r12_a.below b13
  have r13_x := r12_x.below b13
  have r13_y := r12_y.below b13
  have r13_z := r12_z.below b13
  have r13_p := r12_p.below b13
  have r13_q := r12_q.below b13
  have r13_r := r12_r.below b13
  have r13_I := o13.reads
  go_wp2_with (fail)
  refine (co _ t13 _ _ r13_I r13_a).mono ?_
  rintro e w14 ⟨v14, rfl, o14, b14⟩
  have t14 := t13.below b14 t13.two
  have r14_a := r13_a.below b14
  have r14_x := r13_x.below b14
  have r14_y := r13_y.below b14
  have r14_z := r13_z.below b14
  have r14_p := r13_p.below b14
  have r14_q := r13_q.below b14
  have r14_r := r13_r.below b14
  have r14_I := r13_I.below b14
  have r14_o := o14.reads
  go_wp2_with (fail)
  refine (cu _ t14 _ _ r14_a r14_I).mono ?_
  rintro e w15 ⟨v15, rfl, o15, b15⟩
  have t15 := t14.below b15 t14.two
  have r15_a := r14_a.below b15
  have r15_x := r14_x.below b15
  have r15_y := r14_y.below b15
  have r15_z := r14_z.below b15
  have r15_p := r14_p.below b15
  have r15_q := r14_q.below b15
  have r15_r := r14_r.below b15
  have r15_I := r14_I.below b15
  have r15_o := r14_o.below b15
  have r15_u := o15.reads
  have ny := fun W => (r15_y).len_run (P := Tryd.prog) Tryd.underlying22 3 W
  rw [List.length_map, ly.out] at ny
  have nz := fun W => (r15_z).len_run (P := Tryd.prog) Tryd.underlying22 3 W
  rw [List.length_map, lz.out] at nz
  have nq := fun W => (r15_q).len_run (P := Tryd.prog) Tryd.underlying22 3 W
  rw [List.length_map, lq.out] at nq
  have nr := fun W => (r15_r).len_run (P := Tryd.prog) Tryd.underlying22 3 W
  rw [List.length_map, le.out] at nr
  go_wp2_with (fail)
  refine (cs1 _ _ _ r15_y r15_z).mono ?_
  rintro e w16 ⟨v16, rfl, o16, b16⟩
  have t16 := t15.below b16 t15.two
  have r16_a := r15_a.below b16
  have r16_x := r15_x.below b16
  have r16_y := r15_y.below b16
  have r16_z := r15_z.below b16
  have r16_p := r15_p.below b16
  have r16_q := r15_q.below b16
  have r16_r := r15_r.below b16
  have r16_o := r15_o.below b16
  have r16_u := r15_u.below b16
  have r16_s := o16.reads
  go_wp2_with (fail)
  refine (k1 _ _ _ r16_x r16_s).mono ?_
  rintro e w17 ⟨rfl, b17⟩
  have t17 := t16.below b17 t16.two
  have r17_a := r16_a.below b17
  have r17_x := r16_x.below b17
  have r17_p := r16_p.below b17
  have r17_q := r16_q.below b17
  have r17_r := r16_r.below b17
  have r17_o := r16_o.below b17
  have r17_u := r16_u.below b17
  have r17_s := r16_s.below b17
  go_wp2_with (fail)
  refine (cs2 _ _ _ r17_q r17_r).mono ?_
  rintro e w18 ⟨v18, rfl, o18, b18⟩
  have t18 := t17.below b18 t17.two
  have r18_a := r17_a.below b18
  have r18_p := r17_p.below b18
  have r18_q := r17_q.below b18
  have r18_r := r17_r.below b18
  have r18_o := r17_o.below b18
  have r18_u := r17_u.below b18
  have r18_s := o18.reads
  go_wp2_with (fail)
  refine (k2 _ _ _ r18_p r18_s).mono ?_
  rintro e w19 ⟨rfl, b19⟩
  have t19 := t18.below b19 t18.two
  have r19_a := r18_a.below b19
  have r19_p := r18_p.below b19
  have r19_o := r18_o.below b19
  have r19_u := r18_u.below b19
  have r19_s := r18_s.below b19
  go_wp2_with (fail)
  refine (k3 _ _ _ r19_o r19_a).mono ?_
  rintro e w20 ⟨rfl, b20⟩
  have t20 := t19.below b20 t19.two
  have r20_a := r19_a.below b20
  have r20_o := r19_o.below b20
  have r20_u := r19_u.below b20
  go_wp2_with (fail)
  refine (k3 _ _ _ r20_u r20_a).mono ?_
  rintro e w21 ⟨rfl, b21⟩
  have t21 := t20.below b21 t20.two
  have r21_a := r20_a.below b21
  have r21_u := r20_u.below b21
  go_wp2_with (fail)
  go_ret
  exact ⟨rfl, below_c (below_c (below_c (below_c (below_c (below_c (below_c (below_c (below_c (below_c (below_c (below_c (below_c (below_c (below_c (below_c (below_c (below_c (below_c (below_c b1 b2) b3) b4) b5) b6) b7) b8) b9) b10) b11) b12) b13) b14) b15) b16) b17) b18) b19) b20) b21⟩
end Go.Proofs.YtocaboamlagaaaaDoor
