/- geo's laws: no two blocks stand in one place. -/
import Derived.Test.YtfepfmibcjlkiaaGeoMath
import Derived.Test.YtfepfmibcjlkiaaGeoLaw1
namespace Go.Proofs.Ytfepfmibcjlkiaa
open Go.RowKit
set_option linter.unusedVariables false
set_option linter.unusedSimpArgs false
attribute [local go_sem ↓] Go.wp_at_zero Go.wp_at_succ

/-- Two places' boxes. -/
structure Ap2 (w : World) (x y : Nat) (a b c d a' b' c' d' : Int) : Prop where
  l : Ap w x a b c d
  r : Ap w y a' b' c' d'
theorem Ap2.step {w w' : World} {x y : Nat} {a b c d a' b' c' d' : Int} (h : Ap2 w x y a b c d a' b' c' d') (hb : Below w.heap.size w w') : Ap2 w' x y a b c d a' b' c' d' := ⟨h.l.step hb, h.r.step hb⟩

theorem apCls {w : World} {x : Nat} {a b c d : Int} (h : Ap w x a b c d) {Z : Type} {f : Z → World} (hD : ∀ z, Below w.heap.size w (f z)) :
    (∀ z, (f z).cell? ⟨x, 0, none⟩ = some (.int .i64 a)) ∧ (∀ z, (f z).cell? ⟨x, 1, none⟩ = some (.int .i64 b)) ∧ (∀ z, (f z).cell? ⟨x, 2, none⟩ = some (.int .i64 c)) ∧ (∀ z, (f z).cell? ⟨x, 3, none⟩ = some (.int .i64 d)) := by
  have hz := clsCell hD
  have := h.lt
  exact ⟨fun z => by rw [hz z _ _ (by omega)]; exact h.a, fun z => by rw [hz z _ _ (by omega)]; exact h.b, fun z => by rw [hz z _ _ (by omega)]; exact h.c, fun z => by rw [hz z _ _ (by omega)]; exact h.d⟩
set_option maxRecDepth 100000 in
set_option maxHeartbeats 2000000 in
theorem once_any (K M B a b : Int) (w : World) (k1 : -9223372036854775808 ≤ K) (k2 : K ≤ 9223372036854775807) (m1 : -9223372036854775808 ≤ M) (m2 : M ≤ 9223372036854775807) (b1 : -9223372036854775808 ≤ B) (b2 : B ≤ 9223372036854775807)
    (x1 : -9223372036854775808 ≤ a) (x2 : a ≤ 9223372036854775807) (y1 : -9223372036854775808 ≤ b) (y2 : b ≤ 9223372036854775807) :
    Calls Try.prog 5 #[.agg #[.int .i64 K, .int .i64 M, .int .i64 B], .int .i64 a, .int .i64 b] w fun e w' => e = .returned (.bool true) ∧ Below w.heap.size w w' := by
  have hR := fit_right K M B
  obtain ⟨k, hk⟩ : ∃ k, fK K = k := ⟨_, rfl⟩
  obtain ⟨m, hm⟩ : ∃ m, fM M = m := ⟨_, rfl⟩
  obtain ⟨n, hn⟩ : ∃ n, fB B = n := ⟨_, rfl⟩
  rw [hk, hm, hn] at hR
  obtain ⟨u1, u2, u3, u4, u5, u6⟩ := gR_true hR
  have r1 := pk_rng a n (by omega)
  have r2 := pk_rng b n (by omega)
  obtain ⟨A, hA⟩ : ∃ A, pk a n = A := ⟨_, rfl⟩
  obtain ⟨C, hC⟩ : ∃ C, pk b n = C := ⟨_, rfl⟩
  rw [hA] at r1
  rw [hC] at r2
  obtain ⟨a0, a1, a2, a3, sA⟩ := stands hR r1.1 r1.2
  obtain ⟨c0, c1, c2, c3, sC⟩ := stands hR r2.1 r2.2
  have hS := (same_iff hR r1.1 r1.2 r2.1 r2.2 sA sC).1
  obtain ⟨h1, f1⟩ : ∃ x, gHead k m n 1 = x := ⟨_, rfl⟩
  obtain ⟨h0, f0⟩ : ∃ x, gHead k m n 0 = x := ⟨_, rfl⟩
  obtain ⟨hA1, fA⟩ : ∃ x, gHead k m n A = x := ⟨_, rfl⟩
  obtain ⟨bd, fb⟩ : ∃ x, gBody k m n = x := ⟨_, rfl⟩
  obtain ⟨sc, fs⟩ : ∃ x, gSectors k m n = x := ⟨_, rfl⟩
  obtain ⟨sn, fn⟩ : ∃ x, gSlots k m n = x := ⟨_, rfl⟩
  have fA2 : gHead k m n (A + 2) = hA1 := by rw [← fA, head_eq hR (by omega), head_eq hR r1.1, show (A + 2) % 2 = A % 2 by omega]
  have g1 : h1 = 3 + 16 * k := by rw [← f1, head_eq hR (by omega)]; omega
  have g0 : h0 = 2 := by rw [← f0, head_eq hR (by omega)]; omega
  have gb : bd = 16 * k := by rw [← fb, body_eq hR]
  have gs : sc = 2 + 2 * (1 + 16 * k) + (n + k - 1) / k := by rw [← fs, sectors_eq hR]
  have gn : sn = k + m := by rw [← fn, slots_eq hR]
  have d := div_lt hR r1.1 r1.2
  have j3 := sA.vse
  have j2 := sA.vsl
  have j4 : 0 ≤ a2 ∧ a2 < k + m := by rw [j2]; exact ⟨Int.emod_nonneg _ (by omega), Int.emod_lt_of_pos _ (by omega)⟩
  have j5 : sc ≤ 256 := by
    rw [gs]
    rcases (k_cases hR).1 with rfl | rfl | rfl | rfl <;> omega
  have t1 : decide (h1 + bd < a3) = true := by simp; omega
  have t2 : decide (h0 + bd < h1) = true := by simp; omega
  have t3 : decide (a3 < sc) = true := by simp; omega
  have t4 : decide (sc ≤ 256) = true := by simpa using j5
  have t5 : decide (0 ≤ a2) = true := by simpa using j4.1
  have t6 : decide (a2 < sn) = true := by simp; omega
  have z1 : 0 ≤ h1 ∧ h1 ≤ 1000 := by omega
  have z0 : 0 ≤ h0 ∧ h0 ≤ 1000 := by omega
  have zb : 0 ≤ bd ∧ bd ≤ 1000 := by omega
  have zA : 0 ≤ A ∧ A ≤ 1000 := by omega
  have kA := sA.ker
  have kA0 := sA.kst; have kA1 := sA.kix; have kA2 := sA.ksl; have kA3 := sA.kse; have kAi := sA.kis; have kAb := sA.kbl
  have kC := sC.ker
  have kC0 := sC.kst; have kC1 := sC.kix; have kC2 := sC.ksl; have kC3 := sC.kse
  clear sA sC g1 g0 gb gs gn d j3 j2 j4 j5
  have hg0 : Aw w (w.alloc (.cells #[.int .i64 K, .int .i64 M, .int .i64 B] 23)) w.heap.size K M B := Aw.start (w0 := w) (Below.refl _ w) K M B
  have D1 := fun W => head_any k m n 1 W (by omega)
  have D0 := fun W => head_any k m n 0 W (by omega)
  have DA2 := fun W => head_any k m n (A + 2) W (by omega)
  have DA := fun W => head_any k m n A W (by omega)
  have DB := fun W => body_any k m n W
  have DS := fun W => sectors_any k m n W
  have DN := fun W => slots_any k m n W
  rw [f1] at D1; rw [f0] at D0; rw [fA2] at DA2; rw [fA] at DA; rw [fb] at DB; rw [fs] at DS; rw [fn] at DN
  have v1 : IntKind.i64.wrap (h1 + bd) = h1 + bd := IntWalk.i64_in _ (by omega)
  have v2 : IntKind.i64.wrap (h0 + bd) = h0 + bd := IntWalk.i64_in _ (by omega)
  have v3 : IntKind.i64.wrap (A + 2) = A + 2 := IntWalk.i64_in _ (by omega)
  cases e2 : (a2 == c2) <;> cases e3 : (a3 == c3)
  all_goals
    have eAC : (A == C) = ((a2 == c2) && (a3 == c3)) := by rw [Bool.eq_iff_iff]; simp only [Bool.and_eq_true, beq_iff_eq]; exact hS.symm
    rw [e2, e3] at eAC
    simp only [Bool.and_self, Bool.false_and, Bool.and_false] at eAC
    clear hS
    go_enter Try.func5, Try.ntmps5
    go_wp2_with (first
      | (go_at_call 9; refine (awake_any _).mono ?_; rintro e w1 ⟨rfl, hb1⟩; (have hgn := Aw.step (by first | assumption | exact Aw.alloc (by assumption) _) hb1; have hgx := hgn; obtain ⟨e0, e1, e2, e3, _⟩ := hgx))
      | (go_at_call 32; refine (fit_any _ _ _ _ k1 k2 m1 m2 b1 b2).mono ?_; rintro e w2 ⟨rfl, hb2⟩; rw [hk, hm, hn]; (have hgn := Aw.step (by first | assumption | exact Aw.alloc (by assumption) _) hb2; have hgx := hgn; obtain ⟨e0, e1, e2, e3, _⟩ := hgx); have hG := Aw.start (Aw.bel (by assumption : Aw w w2 w.heap.size K M B)) k m n; generalize hw3 : w2.alloc (.cells #[.int .i64 k, .int .i64 m, .int .i64 n] 23) = w3 at *; have hG2 := hG; obtain ⟨o0, o1, o2, o3, _⟩ := hG2)
      | (go_at_call_of 33 a; refine (pick_any a _ _ x1 x2 (by omega) (by omega)).mono ?_; rintro e w' ⟨rfl, rfl⟩; rw [hA])
      | (go_at_call_of 33 b; refine (pick_any b _ _ y1 y2 (by omega) (by omega)).mono ?_; rintro e w' ⟨rfl, rfl⟩; rw [hC])
      | (go_at_call_of 10 (Value.int .i64 A); refine (of_any _ _ _ _ _).mono ?_; rintro e w4 ⟨rfl, hb4⟩; rw [kA, kA0, kA1, kA2, kA3]; (have hgn := Aw.step (by first | assumption | exact Aw.alloc (by assumption) _) hb4; have hgx := hgn; obtain ⟨e0, e1, e2, e3, _⟩ := hgx))
      | (go_at_call_of 10 (Value.int .i64 C); refine (of_any _ _ _ _ _).mono ?_; rintro e w5 ⟨rfl, hb5⟩; rw [kC, kC0, kC1, kC2, kC3]; (have hgn := Aw.step (by first | assumption | exact Aw.alloc (by assumption) _) hb5; have hgx := hgn; obtain ⟨e0, e1, e2, e3, _⟩ := hgx); have hP := Ap.step (Ap.start _ _ _ _ _) hb5; have hP2 := hP; obtain ⟨p0, p1, p2, p3, p4⟩ := hP2)
      | (go_at_call 12; refine (block_any _ _ _ _ _ _).mono ?_; rintro e w6 ⟨rfl, hb6⟩; rw [kAi, kAb]; (have hgn := Aw.step (by first | assumption | exact Aw.alloc (by assumption) _) hb6; have hgx := hgn; obtain ⟨e0, e1, e2, e3, _⟩ := hgx); have hQ := Ap2.step ⟨Ap.alloc hP _, Ap.start _ _ _ _ _⟩ hb6; have hQ2 := hQ; obtain ⟨⟨p0, p1, p2, p3, p4⟩, ⟨q0, q1, q2, q3, q4⟩⟩ := hQ2))
    have hg6 := (by assumption : Aw w w6 w2.heap.size k m n)
    clear hw3 hG
    simp only [List.append]
    refine wp_region_cls (Below w6.heap.size w6) (by kernel_rfl) (by kernel_rfl) (Below.refl _ _).drew ?_
    intro Z f hne hD hE
    obtain ⟨z0, z1, z2⟩ := awCls hg6 hD
    obtain ⟨p0, p1, p2, p3⟩ := apCls hQ.l hD
    obtain ⟨q0, q1, q2, q3⟩ := apCls hQ.r hD
    repeat (go_big_quiet_step (first
      | (go_at_call_of 30 (Value.int .i64 1); exact toQB hD hE _ (D1 _))
      | (go_at_call_of 30 (Value.int .i64 0); exact toQB hD hE _ (D0 _))
      | (go_at_call_of 30 (Value.int .i64 A); exact toQB hD hE _ (DA _))
      | (go_at_call 22; exact toQB hD hE _ (DB _))
      | (go_at_call 20; exact toQB hD hE _ (DS _))
      | (go_at_call 16; exact toQB hD hE _ (DN _))
      | (go_at_call 30; exact toQB hD hE _ (DA2 _))))
    refine wpQuiet_nil ?_
    intro _ hw'
    obtain ⟨zq, hw''⟩ := hw'
    subst hw''
    have hz := hD zq
    have hg7 := Aw.step hg6 hz
    generalize f zq = w7 at *
    clear z0 z1 z2 p0 p1 p2 p3 q0 q1 q2 q3 hD hE hne
    go_wp2
    go_ret
    exact ⟨rfl, hg7.bel⟩
end Go.Proofs.Ytfepfmibcjlkiaa
