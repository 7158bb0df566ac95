/- mat's laws: products may be put together in any order; what undoes a product. -/
import Derived.Test.YtocaboamlagaaaaDoorMatLaw1
namespace Go.Proofs.YtocaboamlagaaaaDoor
open Go.RowKit
set_option linter.unusedVariables false
set_option linter.unusedSimpArgs false

theorem both_right {n : Nat} {A B X Y : Mx.M} (h1 : ∀ i j, i < n → j < n → Mx.mul n A X i j = Mx.one i j) (h2 : ∀ i j, i < n → j < n → Mx.mul n B Y i j = Mx.one i j) :
    ∀ i j, i < n → j < n → Mx.mul n (Mx.mul n A B) (Mx.mul n Y X) i j = Mx.one i j := fun i j hi hj => by
  rw [Mx.mmul_assoc, ← Mx.mmul_assoc n n B Y X, ← h1 i j hi hj]
  refine Mx.mul_congr (fun _ _ => rfl) fun k hk => ?_
  rw [Mx.mul_congr (A' := Mx.one) (B' := X) (fun l hl => h2 k l hk hl) (fun _ _ => rfl), Mx.one_mul_at _ hk]
/-- A product undone; its parts undone. -/
theorem both_ok {a b : List ByteArray} {n : Nat} (ha : Rect a n n) (hb : Rect b n n) (h1 : 1 ≤ n) (h2 : n ≤ 16) (ea : invE a = 0) (eb : invE b = 0) :
    invE (mulL a b) = 0 ∧ invL (mulL a b) = mulL (invL b) (invL a) ∧ mulE (invL b) (invL a) = 0 ∧ Rect (invL a) n n ∧ Rect (invL b) n n := by
  rcases inv_cases ha h1 h2 with ⟨_, ra, k1, k2⟩ | ⟨e, _⟩
  · rcases inv_cases hb h1 h2 with ⟨_, rb, l1, l2⟩ | ⟨e, _⟩
    · obtain ⟨m1, m2, m3⟩ := mulL_sq ha hb h1 h2
      obtain ⟨p1, p2, p3⟩ := mulL_sq rb ra h1 h2
      have hx := both_right k2 l2
      have := inv_is m2 p2 h1 h2 (fun i j hi hj => by
        rw [← hx i j hi hj]
        exact Mx.mul_congr (fun k hk => m3 i k hi hk) (fun k hk => p3 k j hk hj))
      exact ⟨this.1, this.2, p1, ra, rb⟩
    · rw [eb] at e; cases e
  · rw [ea] at e; cases e
theorem both_bad {a b : List ByteArray} {n : Nat} (ha : Rect a n n) (hb : Rect b n n) (h1 : 1 ≤ n) (h2 : n ≤ 16) (h : invE a = 21 ∨ invE b = 21) :
    invE (mulL a b) = 21 ∧ invL (mulL a b) = [] := by
  obtain ⟨m1, m2, m3⟩ := mulL_sq ha hb h1 h2
  rcases inv_cases m2 h1 h2 with ⟨_, rc, k1, k2⟩ | ⟨e, e2, _⟩
  · exfalso
    rcases h with h | h
    · obtain ⟨p1, p2, p3⟩ := mulL_sq hb rc h1 h2
      have := inv_is ha p2 h1 h2 (fun i j hi hj => by
        rw [← k2 i j hi hj, Mx.mul_congr (A' := el a) (B' := Mx.mul n (el b) (el (invL (mulL a b)))) (fun _ _ => rfl) (fun k hk => p3 k j hk hj), ← Mx.mmul_assoc]
        exact Mx.mul_congr (fun k hk => (m3 i k hi hk).symm) (fun _ _ => rfl))
      rw [h] at this
      cases this.1
    · rcases inv_cases hb h1 h2 with ⟨e, _⟩ | ⟨_, _, v, c, hc, hv1, hv2⟩
      · rw [h] at e; cases e
      · have := Mx.no_kernel (B := Mx.mul n (el (invL (mulL a b))) (el a)) (fun i j hi hj => by
          rw [Mx.mmul_assoc, ← k1 i j hi hj]
          exact Mx.mul_congr (fun _ _ => rfl) (fun k hk => (m3 k j hk hj).symm)) hv2 hc
        rw [hv1] at this
        exact Mx.one_ne this
  · exact ⟨e, e2⟩
theorem groups_eq {a b c : List ByteArray} {n : Nat} (ha : Rect a n n) (hb : Rect b n n) (hc : Rect c n n) (h1 : 1 ≤ n) (h2 : n ≤ 16) : mulL (mulL a b) c = mulL a (mulL b c) := by
  obtain ⟨_, p2, p3⟩ := mulL_sq ha hb h1 h2
  obtain ⟨_, q2, q3⟩ := mulL_sq hb hc h1 h2
  obtain ⟨_, r2, r3⟩ := mulL_sq p2 hc h1 h2
  obtain ⟨_, s2, s3⟩ := mulL_sq ha q2 h1 h2
  refine r2.ext s2 fun i j hi hj => ?_
  rw [r3 i j hi hj, s3 i j hi hj, Mx.mul_congr (A' := Mx.mul n (el a) (el b)) (B' := el c) (fun k hk => p3 i k hi hk) (fun _ _ => rfl), Mx.mmul_assoc]
  exact Mx.mul_congr (fun _ _ => rfl) (fun k hk => (q3 k j hk hj).symm)
set_option maxRecDepth 100000 in
set_option maxHeartbeats 4000000 in
theorem groups_walk (s : ByteArray) (t : ByteArray) (u : ByteArray) (n : Int) (w : World) (ht : Tabs w) (h1 : -9223372036854775808 ≤ n) (h2 : n ≤ 9223372036854775807) (hzs : s.size ≤ 140737488351232) (hzt : t.size ≤ 140737488351232) (hzu : u.size ≤ 140737488351232) :
    Calls Tryd.prog 7 #[.string s, .string t, .string u, .int .i64 n] w (Says w (.bool true)) := by
  obtain ⟨p, hp, hpick⟩ := pick_nat n 5 h1 h2 (by decide) (by decide)
  obtain ⟨N, hN⟩ : ∃ N : Nat, N = 1 + p := ⟨_, rfl⟩
  have hN1 : 1 + (p : Int) = (N : Int) := by omega
  have n1 : 1 ≤ N := by omega
  have n2 : N ≤ 5 := by omega
  have n3 : N ≤ 16 := by omega
  clear hN
  have hsqa := fun W => square_any s N W n3 (by omega)
  have ra := squareL_rect s N
  generalize squareL s N = a at *
  have fa := ra.fits (by omega) (by omega)
  have hsqb := fun W => square_any t N W n3 (by omega)
  have rb := squareL_rect t N
  generalize squareL t N = b at *
  have fb := rb.fits (by omega) (by omega)
  have hsqc := fun W => square_any u N W n3 (by omega)
  have rc := squareL_rect u N
  generalize squareL u N = c at *
  have fc := rc.fits (by omega) (by omega)
  obtain ⟨x1, rx, _⟩ := mulL_sq ra rb n1 n3
  obtain ⟨z1, rz, _⟩ := mulL_sq rb rc n1 n3
  obtain ⟨y1, ry, _⟩ := mulL_sq rx rc n1 n3
  obtain ⟨w1, rw', _⟩ := mulL_sq ra rz n1 n3
  have hg := groups_eq ra rb rc n1 n3
  have fx := rx.fits (by omega) (by omega)
  have fz := rz.fits (by omega) (by omega)
  have fw := rw'.fits (by omega) (by omega)
  have cx := fun W hW va vb ha hb => mxmul_any va vb a b W hW ha hb fa fb
  have cz := fun W hW va vb ha hb => mxmul_any va vb b c W hW ha hb fb fc
  have cy := fun W hW va vb ha hb => mxmul_any va vb (mulL a b) c W hW ha hb fx fc
  have cw := fun W hW va vb ha hb => mxmul_any va vb a (mulL b c) W hW ha hb fa fz
  have cs := fun W va vb ha hb => same_any va vb (mulL a (mulL b c)) (mulL a (mulL b c)) W ha hb fw fw
  rw [sameL_self] at cs
  rw [x1] at cx
  rw [z1] at cz
  rw [y1, hg] at cy
  rw [w1] at cw
  have hln := rw'.l
  generalize mulL a (mulL b c) = d at *
  generalize mulL a b = x at *
  generalize mulL b c = z at *
  have hln' := Lib.hid hln
  clear x1 z1 y1 w1 hg hln
  go_enter Tryd.func7, Tryd.ntmps7
  go_wp2_with (fail)
  refine (awake_any _ ht).mono ?_
  rintro e w1 ⟨rfl, b1⟩
  have t1 := ht.below b1 ht.two
  go_wp2_with (fail)
  refine (hpick _).mono ?_
  rintro e wq ⟨rfl, rfl⟩
  go_wp2_with (fail)
  refine (hsqa _).mono ?_
  rintro e w2 ⟨v2, rfl, o2, b2⟩
  have t2 := t1.below b2 t1.two
  have r2_a := o2.reads
  go_wp2_with (fail)
  refine (hsqb _).mono ?_
  rintro e w3 ⟨v3, rfl, o3, b3⟩
  have t3 := t2.below b3 t2.two
  have r3_a := r2_a.below b3
  have r3_b := o3.reads
  go_wp2_with (fail)
  refine (hsqc _).mono ?_
  rintro e w4 ⟨v4, rfl, o4, b4⟩
  have t4 := t3.below b4 t3.two
  have r4_a := r3_a.below b4
  have r4_b := r3_b.below b4
  have r4_c := o4.reads
  go_wp2_with (fail)
  refine (cx _ t4 _ _ r4_a r4_b).mono ?_
  rintro e w5 ⟨v5, rfl, o5, b5⟩
  have t5 := t4.below b5 t4.two
  have r5_a := r4_a.below b5
  have r5_b := r4_b.below b5
  have r5_c := r4_c.below b5
  have r5_x := o5.reads
  go_wp2_with (fail)
  refine (cy _ t5 _ _ r5_x r5_c).mono ?_
  rintro e w6 ⟨v6, rfl, o6, b6⟩
  have t6 := t5.below b6 t5.two
  have r6_a := r5_a.below b6
  have r6_b := r5_b.below b6
  have r6_c := r5_c.below b6
  have r6_x := r5_x.below b6
  have r6_y := o6.reads
  go_wp2_with (fail)
  refine (cz _ t6 _ _ r6_b r6_c).mono ?_
  rintro e w7 ⟨v7, rfl, o7, b7⟩
  have t7 := t6.below b7 t6.two
  have r7_a := r6_a.below b7
  have r7_b := r6_b.below b7
  have r7_c := r6_c.below b7
  have r7_y := r6_y.below b7
  have r7_z := o7.reads
  go_wp2_with (fail)
  refine (cw _ t7 _ _ r7_a r7_z).mono ?_
  rintro e w8 ⟨v8, rfl, o8, b8⟩
  have t8 := t7.below b8 t7.two
  have r8_a := r7_a.below b8
  have r8_y := r7_y.below b8
  have r8_z := r7_z.below b8
  have r8_w := o8.reads
  have lw := fun W => (o8.reads).len_run (P := Tryd.prog) Tryd.underlying22 3 W
  rw [List.length_map, hln'.out] at lw
  go_wp2_with (fail)
  refine (cs _ _ _ r8_y r8_w).mono ?_
  rintro e w9 ⟨rfl, b9⟩
  have t9 := t8.below b9 t8.two
  have r9_y := r8_y.below b9
  have r9_w := r8_w.below b9
  go_wp2_with (fail)
  go_ret
  exact ⟨rfl, below_c (below_c (below_c (below_c (below_c (below_c (below_c (below_c b1 b2) b3) b4) b5) b6) b7) b8) b9⟩
set_option maxRecDepth 100000 in
set_option maxHeartbeats 4000000 in
theorem both_walk (s : ByteArray) (t : ByteArray) (n : Int) (w : World) (ht : Tabs w) (h1 : -9223372036854775808 ≤ n) (h2 : n ≤ 9223372036854775807) (hzs : s.size ≤ 140737488351232) (hzt : t.size ≤ 140737488351232) :
    Calls Tryd.prog 10 #[.string s, .string t, .int .i64 n] w (Says w (.bool true)) := by
  obtain ⟨p, hp, hpick⟩ := pick_nat n 5 h1 h2 (by decide) (by decide)
  obtain ⟨N, hN⟩ : ∃ N : Nat, N = 1 + p := ⟨_, rfl⟩
  have hN1 : 1 + (p : Int) = (N : Int) := by omega
  have n1 : 1 ≤ N := by omega
  have n2 : N ≤ 5 := by omega
  have n3 : N ≤ 16 := by omega
  clear hN
  have hsqa := fun W => square_any s N W n3 (by omega)
  have ra := squareL_rect s N
  generalize squareL s N = a at *
  have fa := ra.fits (by omega) (by omega)
  have hsqb := fun W => square_any t N W n3 (by omega)
  have rb := squareL_rect t N
  generalize squareL t N = b at *
  have fb := rb.fits (by omega) (by omega)
  obtain ⟨x1, rx, _⟩ := mulL_sq ra rb n1 n3
  have fx := rx.fits (by omega) (by omega)
  have cc := fun W hW va vb ha hb => mxmul_any va vb a b W hW ha hb fa fb
  have ca := fun W hW v hv => inverse_any v a W hW hv fa
  have cb := fun W hW v hv => inverse_any v b W hW hv fb
  have ci := fun W hW v hv => inverse_any v (mulL a b) W hW hv fx
  rw [x1] at cc
  have ea : invE a = 0 ∨ invE a = 21 := by rcases inv_cases ra n1 n3 with ⟨e, _⟩ | ⟨e, _⟩ <;> simp [e]
  have eb : invE b = 0 ∨ invE b = 21 := by rcases inv_cases rb n1 n3 with ⟨e, _⟩ | ⟨e, _⟩ <;> simp [e]
  by_cases hab : invE a = 0 ∧ invE b = 0
  · obtain ⟨ea, eb⟩ := hab
    obtain ⟨g1, g2, g3, qa, qb⟩ := both_ok ra rb n1 n3 ea eb
    have fqa := qa.fits (by omega) (by omega)
    have fqb := qb.fits (by omega) (by omega)
    have fz := (mulL_sq qb qa n1 n3).2.1.fits (by omega) (by omega)
    have cw := fun W hW va vb ha hb => mxmul_any va vb (invL b) (invL a) W hW ha hb fqb fqa
    have cs := fun W va vb ha hb => same_any va vb (mulL (invL b) (invL a)) (mulL (invL b) (invL a)) W ha hb fz fz
    rw [sameL_self] at cs
    rw [g3] at cw
    rw [g1, g2] at ci
    rw [ea] at ca
    rw [eb] at cb
    generalize mulL (invL b) (invL a) = z at *
    generalize mulL a b = x at *
    generalize invL a = qa' at *
    generalize invL b = qb' at *
    clear g1 g2 g3 ea eb x1
    go_enter Tryd.func10, Tryd.ntmps10
    go_wp2_with (fail)
    refine (awake_any _ ht).mono ?_
    rintro e w1 ⟨rfl, b1⟩
    have t1 := ht.below b1 ht.two
    go_wp2_with (fail)
    refine (hpick _).mono ?_
    rintro e wq ⟨rfl, rfl⟩
    go_wp2_with (fail)
    refine (hsqa _).mono ?_
    rintro e w2 ⟨v2, rfl, o2, b2⟩
    have t2 := t1.below b2 t1.two
    have r2_a := o2.reads
    go_wp2_with (fail)
    refine (hsqb _).mono ?_
    rintro e w3 ⟨v3, rfl, o3, b3⟩
    have t3 := t2.below b3 t2.two
    have r3_a := r2_a.below b3
    have r3_b := o3.reads
    go_wp2_with (fail)
    refine (cc _ t3 _ _ r3_a r3_b).mono ?_
    rintro e w4 ⟨v4, rfl, o4, b4⟩
    have t4 := t3.below b4 t3.two
    have r4_a := r3_a.below b4
    have r4_b := r3_b.below b4
    have r4_c := o4.reads
    go_wp2_with (fail)
    refine (ca _ t4 _ r4_a).mono ?_
    rintro e w5 ⟨v5, rfl, o5, b5⟩
    have t5 := t4.below b5 t4.two
    have r5_a := r4_a.below b5
    have r5_b := r4_b.below b5
    have r5_c := r4_c.below b5
    have r5_x := o5.reads
    go_wp2_with (fail)
    refine (cb _ t5 _ r5_b).mono ?_
    rintro e w6 ⟨v6, rfl, o6, b6⟩
    have t6 := t5.below b6 t5.two
    have r6_a := r5_a.below b6
    have r6_b := r5_b.below b6
    have r6_c := r5_c.below b6
    have r6_x := r5_x.below b6
    have r6_y := o6.reads
    go_wp2_with (fail)
    refine (ci _ t6 _ r6_c).mono ?_
    rintro e w7 ⟨v7, rfl, o7, b7⟩
    have t7 := t6.below b7 t6.two
    have r7_c := r6_c.below b7
    have r7_x := r6_x.below b7
    have r7_y := r6_y.below b7
    have r7_z := o7.reads
    go_wp2_with (fail)
    refine (cw _ t7 _ _ r7_y r7_x).mono ?_
    rintro e w8 ⟨v8, rfl, o8, b8⟩
    have t8 := t7.below b8 t7.two
    have r8_x := r7_x.below b8
    have r8_y := r7_y.below b8
    have r8_z := r7_z.below b8
    have r8_w := o8.reads
    go_wp2_with (fail)
    refine (cs _ _ _ r8_z r8_w).mono ?_
    rintro e w9 ⟨rfl, b9⟩
    have t9 := t8.below b9 t8.two
    have r9_z := r8_z.below b9
    have r9_w := r8_w.below b9
    go_wp2_with (fail)
    go_ret
    exact ⟨rfl, below_c (below_c (below_c (below_c (below_c (below_c (below_c (below_c b1 b2) b3) b4) b5) b6) b7) b8) b9⟩
  · rcases ea with ea | ea <;> rcases eb with eb | eb
    · exact absurd ⟨ea, eb⟩ hab
    · obtain ⟨g1, g2⟩ := both_bad ra rb n1 n3 (by first | exact .inl ea | exact .inr eb)
      rw [g1, g2] at ci
      rw [ea] at ca
      rw [eb] at cb
      generalize mulL a b = x at *
      clear g1 g2 ea eb x1
      go_enter Tryd.func10, Tryd.ntmps10
      go_wp2_with (fail)
      refine (awake_any _ ht).mono ?_
      rintro e w1 ⟨rfl, b1⟩
      have t1 := ht.below b1 ht.two
      go_wp2_with (fail)
      refine (hpick _).mono ?_
      rintro e wq ⟨rfl, rfl⟩
      go_wp2_with (fail)
      refine (hsqa _).mono ?_
      rintro e w2 ⟨v2, rfl, o2, b2⟩
      have t2 := t1.below b2 t1.two
      have r2_a := o2.reads
      go_wp2_with (fail)
      refine (hsqb _).mono ?_
      rintro e w3 ⟨v3, rfl, o3, b3⟩
      have t3 := t2.below b3 t2.two
      have r3_a := r2_a.below b3
      have r3_b := o3.reads
      go_wp2_with (fail)
      refine (cc _ t3 _ _ r3_a r3_b).mono ?_
      rintro e w4 ⟨v4, rfl, o4, b4⟩
      have t4 := t3.below b4 t3.two
      have r4_a := r3_a.below b4
      have r4_b := r3_b.below b4
      have r4_c := o4.reads
      go_wp2_with (fail)
      refine (ca _ t4 _ r4_a).mono ?_
      rintro e w5 ⟨v5, rfl, o5, b5⟩
      have t5 := t4.below b5 t4.two
      have r5_a := r4_a.below b5
      have r5_b := r4_b.below b5
      have r5_c := r4_c.below b5
      have r5_x := o5.reads
      go_wp2_with (fail)
      refine (cb _ t5 _ r5_b).mono ?_
      rintro e w6 ⟨v6, rfl, o6, b6⟩
      have t6 := t5.below b6 t5.two
      have r6_a := r5_a.below b6
      have r6_b := r5_b.below b6
      have r6_c := r5_c.below b6
      have r6_x := r5_x.below b6
      have r6_y := o6.reads
      go_wp2_with (fail)
      refine (ci _ t6 _ r6_c).mono ?_
      rintro e w7 ⟨v7, rfl, o7, b7⟩
      have t7 := t6.below b7 t6.two
      have r7_c := r6_c.below b7
      have r7_x := r6_x.below b7
      have r7_y := r6_y.below b7
      have r7_z := o7.reads
      have lz := fun W => (o7.reads).len_run (P := Tryd.prog) Tryd.underlying22 3 W
      go_wp2_with (fail)
      go_ret
      exact ⟨rfl, below_c (below_c (below_c (below_c (below_c (below_c b1 b2) b3) b4) b5) b6) b7⟩
    · obtain ⟨g1, g2⟩ := both_bad ra rb n1 n3 (by first | exact .inl ea | exact .inr eb)
      rw [g1, g2] at ci
      rw [ea] at ca
      rw [eb] at cb
      generalize mulL a b = x at *
      clear g1 g2 ea eb x1
      go_enter Tryd.func10, Tryd.ntmps10
      go_wp2_with (fail)
      refine (awake_any _ ht).mono ?_
      rintro e w1 ⟨rfl, b1⟩
      have t1 := ht.below b1 ht.two
      go_wp2_with (fail)
      refine (hpick _).mono ?_
      rintro e wq ⟨rfl, rfl⟩
      go_wp2_with (fail)
      refine (hsqa _).mono ?_
      rintro e w2 ⟨v2, rfl, o2, b2⟩
      have t2 := t1.below b2 t1.two
      have r2_a := o2.reads
      go_wp2_with (fail)
      refine (hsqb _).mono ?_
      rintro e w3 ⟨v3, rfl, o3, b3⟩
      have t3 := t2.below b3 t2.two
      have r3_a := r2_a.below b3
      have r3_b := o3.reads
      go_wp2_with (fail)
      refine (cc _ t3 _ _ r3_a r3_b).mono ?_
      rintro e w4 ⟨v4, rfl, o4, b4⟩
      have t4 := t3.below b4 t3.two
      have r4_a := r3_a.below b4
      have r4_b := r3_b.below b4
      have r4_c := o4.reads
      go_wp2_with (fail)
      refine (ca _ t4 _ r4_a).mono ?_
      rintro e w5 ⟨v5, rfl, o5, b5⟩
      have t5 := t4.below b5 t4.two
      have r5_a := r4_a.below b5
      have r5_b := r4_b.below b5
      have r5_c := r4_c.below b5
      have r5_x := o5.reads
      go_wp2_with (fail)
      refine (cb _ t5 _ r5_b).mono ?_
      rintro e w6 ⟨v6, rfl, o6, b6⟩
      have t6 := t5.below b6 t5.two
      have r6_a := r5_a.below b6
      have r6_b := r5_b.below b6
      have r6_c := r5_c.below b6
      have r6_x := r5_x.below b6
      have r6_y := o6.reads
      go_wp2_with (fail)
      refine (ci _ t6 _ r6_c).mono ?_
      rintro e w7 ⟨v7, rfl, o7, b7⟩
      have t7 := t6.below b7 t6.two
      have r7_c := r6_c.below b7
      have r7_x := r6_x.below b7
      have r7_y := r6_y.below b7
      have r7_z := o7.reads
      have lz := fun W => (o7.reads).len_run (P := Tryd.prog) Tryd.underlying22 3 W
      go_wp2_with (fail)
      go_ret
      exact ⟨rfl, below_c (below_c (below_c (below_c (below_c (below_c b1 b2) b3) b4) b5) b6) b7⟩
    · obtain ⟨g1, g2⟩ := both_bad ra rb n1 n3 (by first | exact .inl ea | exact .inr eb)
      rw [g1, g2] at ci
      rw [ea] at ca
      rw [eb] at cb
      generalize mulL a b = x at *
      clear g1 g2 ea eb x1
      go_enter Tryd.func10, Tryd.ntmps10
      go_wp2_with (fail)
      refine (awake_any _ ht).mono ?_
      rintro e w1 ⟨rfl, b1⟩
      have t1 := ht.below b1 ht.two
      go_wp2_with (fail)
      refine (hpick _).mono ?_
      rintro e wq ⟨rfl, rfl⟩
      go_wp2_with (fail)
      refine (hsqa _).mono ?_
      rintro e w2 ⟨v2, rfl, o2, b2⟩
      have t2 := t1.below b2 t1.two
      have r2_a := o2.reads
      go_wp2_with (fail)
      refine (hsqb _).mono ?_
      rintro e w3 ⟨v3, rfl, o3, b3⟩
      have t3 := t2.below b3 t2.two
      have r3_a := r2_a.below b3
      have r3_b := o3.reads
      go_wp2_with (fail)
      refine (cc _ t3 _ _ r3_a r3_b).mono ?_
      rintro e w4 ⟨v4, rfl, o4, b4⟩
      have t4 := t3.below b4 t3.two
      have r4_a := r3_a.below b4
      have r4_b := r3_b.below b4
      have r4_c := o4.reads
      go_wp2_with (fail)
      refine (ca _ t4 _ r4_a).mono ?_
      rintro e w5 ⟨v5, rfl, o5, b5⟩
      have t5 := t4.below b5 t4.two
      have r5_a := r4_a.below b5
      have r5_b := r4_b.below b5
      have r5_c := r4_c.below b5
      have r5_x := o5.reads
      go_wp2_with (fail)
      refine (cb _ t5 _ r5_b).mono ?_
      rintro e w6 ⟨v6, rfl, o6, b6⟩
      have t6 := t5.below b6 t5.two
      have r6_a := r5_a.below b6
      have r6_b := r5_b.below b6
      have r6_c := r5_c.below b6
      have r6_x := r5_x.below b6
      have r6_y := o6.reads
      go_wp2_with (fail)
      refine (ci _ t6 _ r6_c).mono ?_
      rintro e w7 ⟨v7, rfl, o7, b7⟩
      have t7 := t6.below b7 t6.two
      have r7_c := r6_c.below b7
      have r7_x := r6_x.below b7
      have r7_y := r6_y.below b7
      have r7_z := o7.reads
      have lz := fun W => (o7.reads).len_run (P := Tryd.prog) Tryd.underlying22 3 W
      go_wp2_with (fail)
      go_ret
      exact ⟨rfl, below_c (below_c (below_c (below_c (below_c (below_c b1 b2) b3) b4) b5) b6) b7⟩
end Go.Proofs.YtocaboamlagaaaaDoor
