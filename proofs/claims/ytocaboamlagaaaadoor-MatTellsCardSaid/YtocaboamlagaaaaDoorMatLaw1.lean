/- mat's laws: an inverse undoes from either side; products may be put together in any order; what undoes a product. -/
import Derived.Test.YtocaboamlagaaaaDoorMatAwake
namespace Go.Proofs.YtocaboamlagaaaaDoor
open Go.RowKit
set_option linter.unusedVariables false
set_option linter.unusedSimpArgs false

/-- A product of squares. -/
theorem mulL_sq {a b : List ByteArray} {n : Nat} (ha : Rect a n n) (hb : Rect b n n) (h1 : 1 ≤ n) (h2 : n ≤ 16) :
    mulE a b = 0 ∧ Rect (mulL a b) n n ∧ ∀ i j, i < n → j < n → el (mulL a b) i j = Mx.mul n (el a) (el b) i j := by
  have h := mulOk_of ha hb h1 h2 h1 h2 h1 (by omega)
  exact ⟨by rw [mulE, if_pos h], mulL_rect ha hb h1 h, fun i j hi hj => mulL_el ha hb h1 h hi hj⟩
theorem idL_nat {n : Nat} (h1 : 1 ≤ n) (h2 : n ≤ 16) : idL (n : Int) = mkM idEl n n ∧ idE (n : Int) = 0 := by
  rw [idL, idE, if_pos (by simp [fitsB]; omega), if_pos (by simp [fitsB]; omega), show ((n : Int)).toNat = n by omega]
  exact ⟨rfl, rfl⟩
theorem pick_nat (n m : Int) (h1 : -9223372036854775808 ≤ n) (h2 : n ≤ 9223372036854775807) (h3 : 1 ≤ m) (h4 : m ≤ 1000) :
    ∃ p : Nat, (p : Int) < m ∧ ∀ w, Calls Tryd.prog 24 #[.int .i64 n, .int .i64 m] w fun e w' => e = .returned (.int .i64 (p : Int)) ∧ w = w' := by
  have hr := pk_rng n m h3
  obtain ⟨p, hp⟩ := Int.eq_ofNat_of_zero_le hr.1
  refine ⟨p, by omega, fun w => ?_⟩
  rw [← hp]
  exact pick_any n m w h1 h2 h3 (by omega)
set_option maxRecDepth 100000 in
set_option maxHeartbeats 2000000 in
theorem undoes_walk (s : ByteArray) (n : Int) (w : World) (ht : Tabs w) (h1 : -9223372036854775808 ≤ n) (h2 : n ≤ 9223372036854775807) (hs : s.size ≤ 140737488351232) :
    Calls Tryd.prog 5 #[.string s, .int .i64 n] w (Says w (.bool true)) := by
  obtain ⟨p, hp, hpick⟩ := pick_nat n 6 h1 h2 (by decide) (by decide)
  obtain ⟨N, hN⟩ : ∃ N : Nat, N = 1 + p := ⟨_, rfl⟩
  have hN1 : 1 + (p : Int) = (N : Int) := by omega
  have n1 : 1 ≤ N := by omega
  have n2 : N ≤ 6 := by omega
  clear hN
  have hsq := fun W => square_any s N W (by omega) (by omega)
  obtain ⟨hid1, hid2⟩ := idL_nat n1 (show N ≤ 16 by omega)
  have hid := fun W => identity_any (N : Int) W
  rw [hid1, hid2] at hid
  have ra := squareL_rect s N
  have ri := mkM_rect idEl N N
  generalize squareL s N = a at *
  have fa := ra.fits (by omega) (by omega)
  have fi := ri.fits (by omega) (by omega)
  have hinv := fun W hW v hv => inverse_any v a W hW hv fa
  clear hid1 hid2
  rcases inv_cases ra n1 (by omega) with ⟨e1, rb, k1, k2⟩ | ⟨e1, e2, _⟩
  · obtain ⟨m1, m2, m3⟩ := mulL_sq ra rb n1 (by omega)
    obtain ⟨l1, l2, l3⟩ := mulL_sq rb ra n1 (by omega)
    have x1 : mulL a (invL a) = mkM idEl N N := m2.ext ri fun i j hi hj => by rw [m3 i j hi hj, k2 i j hi hj, id_el hi hj]
    have x2 : mulL (invL a) a = mkM idEl N N := l2.ext ri fun i j hi hj => by rw [l3 i j hi hj, k1 i j hi hj, id_el hi hj]
    obtain ⟨y1, y2⟩ := inv_is rb ra n1 (by omega) k1
    have fb := rb.fits (by omega) (by omega)
    have hm1 := fun W hW va vb ha hb => mxmul_any va vb a (invL a) W hW ha hb fa fb
    have hm2 := fun W hW va vb ha hb => mxmul_any va vb (invL a) a W hW ha hb fb fa
    have hinv2 := fun W hW v hv => inverse_any v (invL a) W hW hv fb
    rw [x1, m1] at hm1
    rw [x2, l1] at hm2
    rw [y1, y2] at hinv2
    rw [e1] at hinv
    have hs1 := fun W va vb ha hb => same_any va vb (mkM idEl N N) (mkM idEl N N) W ha hb fi fi
    have hs2 := fun W va vb ha hb => same_any va vb a a W ha hb fa fa
    rw [sameL_self] at hs1 hs2
    generalize mkM idEl N N = I at *
    generalize invL a = b at *
    clear m1 m2 m3 l1 l2 l3 x1 x2 y1 y2 e1 k1 k2
    go_enter Tryd.func5, Tryd.ntmps5
    go_wp2_with (fail)
    refine (awake_any _ ht).mono ?_
    rintro e w1 ⟨rfl, b1⟩
    have t1 := ht.below b1 ht.two
    go_wp2_with (fail)
    refine (hpick _).mono ?_
    rintro e w2 ⟨rfl, rfl⟩
    go_wp2_with (fail)
    refine (hsq _).mono ?_
    rintro e w2 ⟨v2, rfl, o2, b2⟩
    have t2 := t1.below b2 t1.two
    go_wp2_with (fail)
    refine (hid _).mono ?_
    rintro e w3 ⟨v3, rfl, o3, b3⟩
    have t3 := t2.below b3 t2.two
    have r2 := o2.reads.below b3
    go_wp2_with (fail)
    refine (hinv _ t3 _ r2).mono ?_
    rintro e w4 ⟨v4, rfl, o4, b4⟩
    have t4 := t3.below b4 t3.two
    have r2 := r2.below b4
    have r3 := o3.reads.below b4
    go_wp2_with (fail)
    refine (hm1 _ t4 _ _ r2 o4.reads).mono ?_
    rintro e w5 ⟨v5, rfl, o5, b5⟩
    have t5 := t4.below b5 t4.two
    have r2 := r2.below b5
    have r3 := r3.below b5
    have r4 := o4.reads.below b5
    go_wp2_with (fail)
    refine (hm2 _ t5 _ _ r4 r2).mono ?_
    rintro e w6 ⟨v6, rfl, o6, b6⟩
    have t6 := t5.below b6 t5.two
    have r2 := r2.below b6
    have r3 := r3.below b6
    have r4 := r4.below b6
    have r5 := o5.reads.below b6
    go_wp2_with (fail)
    refine (hinv2 _ t6 _ r4).mono ?_
    rintro e w7 ⟨v7, rfl, o7, b7⟩
    have r2 := r2.below b7
    have r3 := r3.below b7
    have r5 := r5.below b7
    have r6 := o6.reads.below b7
    go_wp2_with (fail)
    refine (hs1 _ _ _ r5 r3).mono ?_
    rintro e w8 ⟨rfl, b8⟩
    go_wp2_with (fail)
    refine (hs1 _ _ _ (r6.below b8) (r3.below b8)).mono ?_
    rintro e w9 ⟨rfl, b9⟩
    go_wp2_with (fail)
    refine (hs2 _ _ _ ((o7.reads.below b8).below b9) ((r2.below b8).below b9)).mono ?_
    rintro e w10 ⟨rfl, b10⟩
    go_wp2_with (fail)
    go_ret
    exact ⟨rfl, below_c (below_c (below_c (below_c (below_c (below_c (below_c (below_c (below_c b1 b2) b3) b4) b5) b6) b7) b8) b9) b10⟩
  · rw [e1, e2] at hinv
    clear e1 e2
    go_enter Tryd.func5, Tryd.ntmps5
    go_wp2_with (fail)
    refine (awake_any _ ht).mono ?_
    rintro e w1 ⟨rfl, b1⟩
    have t1 := ht.below b1 ht.two
    go_wp2_with (fail)
    refine (hpick _).mono ?_
    rintro e w2 ⟨rfl, rfl⟩
    go_wp2_with (fail)
    refine (hsq _).mono ?_
    rintro e w2 ⟨v2, rfl, o2, b2⟩
    have t2 := t1.below b2 t1.two
    go_wp2_with (fail)
    refine (hid _).mono ?_
    rintro e w3 ⟨v3, rfl, o3, b3⟩
    have t3 := t2.below b3 t2.two
    have r2 := o2.reads.below b3
    go_wp2_with (fail)
    refine (hinv _ t3 _ r2).mono ?_
    rintro e w4 ⟨v4, rfl, o4, b4⟩
    have l4 := fun W => (o4.reads).len_run (P := Tryd.prog) Tryd.underlying22 3 W
    go_wp2_with (fail)
    go_ret
    exact ⟨rfl, below_c (below_c (below_c b1 b2) b3) b4⟩
end Go.Proofs.YtocaboamlagaaaaDoor
