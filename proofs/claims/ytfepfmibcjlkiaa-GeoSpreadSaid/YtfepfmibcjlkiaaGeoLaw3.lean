/- geo's laws: blocks of one stripe, blocks of unlike stripes. -/
import Derived.Test.YtfepfmibcjlkiaaGeoLaw2
namespace Go.Proofs.Ytfepfmibcjlkiaa
open Go.RowKit
set_option linter.unusedVariables false
set_option linter.unusedSimpArgs false
attribute [local go_sem ↓] Go.wp_at_zero Go.wp_at_succ

set_option maxRecDepth 100000 in
set_option maxHeartbeats 2000000 in
theorem spread_any (K M B a b : Int) (w : World) (k1 : -9223372036854775808 ≤ K) (k2 : K ≤ 9223372036854775807) (m1 : -9223372036854775808 ≤ M) (m2 : M ≤ 9223372036854775807) (b1 : -9223372036854775808 ≤ B) (b2 : B ≤ 9223372036854775807)
    (x1 : -9223372036854775808 ≤ a) (x2 : a ≤ 9223372036854775807) (y1 : -9223372036854775808 ≤ b) (y2 : b ≤ 9223372036854775807) :
    Calls Try.prog 7 #[.agg #[.int .i64 K, .int .i64 M, .int .i64 B], .int .i64 a, .int .i64 b] w fun e w' => e = .returned (.bool true) ∧ Below w.heap.size w w' := by
  have hR := fit_right K M B
  obtain ⟨k, hk⟩ : ∃ k, fK K = k := ⟨_, rfl⟩
  obtain ⟨m, hm⟩ : ∃ m, fM M = m := ⟨_, rfl⟩
  obtain ⟨n, hn⟩ : ∃ n, fB B = n := ⟨_, rfl⟩
  rw [hk, hm, hn] at hR
  obtain ⟨u1, u2, u3, u4, u5, u6⟩ := gR_true hR
  have r1 := pk_rng a n (by omega)
  have r2 := pk_rng b n (by omega)
  obtain ⟨A, hA⟩ : ∃ A, pk a n = A := ⟨_, rfl⟩
  obtain ⟨C, hC⟩ : ∃ C, pk b n = C := ⟨_, rfl⟩
  rw [hA] at r1
  rw [hC] at r2
  obtain ⟨a0, a1, a2, a3, sA⟩ := stands hR r1.1 r1.2
  obtain ⟨c0, c1, c2, c3, sC⟩ := stands hR r2.1 r2.2
  have hS := (same_iff hR r1.1 r1.2 r2.1 r2.2 sA sC).2
  have j1 := div_lt hR r1.1 r1.2
  have j2 := div_lt hR r2.1 r2.2
  have j3 := sA.vst; have j4 := sA.vix; have j5 := sC.vst; have j6 := sC.vix
  have kA := sA.ker
  have kA0 := sA.kst; have kA1 := sA.kix; have kA2 := sA.ksl; have kA3 := sA.kse; have kAi := sA.kis; have kAb := sA.kbl
  have kC := sC.ker
  have kC0 := sC.kst; have kC1 := sC.kix; have kC2 := sC.ksl; have kC3 := sC.kse
  clear sA sC
  rw [← j3, ← j4] at j1; rw [← j5, ← j6] at j2
  clear j3 j4 j5 j6
  have hg0 : Aw w (w.alloc (.cells #[.int .i64 K, .int .i64 M, .int .i64 B] 23)) w.heap.size K M B := Aw.start (w0 := w) (Below.refl _ w) K M B
  by_cases h0 : a0 = c0
  · have e0 : (a0 == c0) = true := by simpa using h0
    obtain ⟨s1, s2, s3⟩ := hS.1 h0
    have e3 : (a3 == c3) = true := by simpa using s1
    have e4 : (a1 - c1 == A - C) = true := by simpa using s3
    cases e2 : (a2 == c2)
    all_goals
      have eAC : (A == C) = (a2 == c2) := by rw [Bool.eq_iff_iff]; simp only [beq_iff_eq]; exact s2.symm
      rw [e2] at eAC
      clear hS s1 s2 s3 h0
      go_enter Try.func7, Try.ntmps7
      go_wp2_with (first
        | (go_at_call 9; refine (awake_any _).mono ?_; rintro e w1 ⟨rfl, hb1⟩; (have hgn := Aw.step (by first | assumption | exact Aw.alloc (by assumption) _) hb1; have hgx := hgn; obtain ⟨e0, e1, e2, e3, _⟩ := hgx))
        | (go_at_call 32; refine (fit_any _ _ _ _ k1 k2 m1 m2 b1 b2).mono ?_; rintro e w2 ⟨rfl, hb2⟩; rw [hk, hm, hn]; (have hgn := Aw.step (by first | assumption | exact Aw.alloc (by assumption) _) hb2; have hgx := hgn; obtain ⟨e0, e1, e2, e3, _⟩ := hgx); have hG := Aw.start (Aw.bel (by assumption : Aw w w2 w.heap.size K M B)) k m n; generalize hw3 : w2.alloc (.cells #[.int .i64 k, .int .i64 m, .int .i64 n] 23) = w3 at *; have hG2 := hG; obtain ⟨o0, o1, o2, o3, _⟩ := hG2)
        | (go_at_call_of 33 a; refine (pick_any a _ _ x1 x2 (by omega) (by omega)).mono ?_; rintro e w' ⟨rfl, rfl⟩; rw [hA])
        | (go_at_call_of 33 b; refine (pick_any b _ _ y1 y2 (by omega) (by omega)).mono ?_; rintro e w' ⟨rfl, rfl⟩; rw [hC])
        | (go_at_call_of 10 (Value.int .i64 A); refine (of_any _ _ _ _ _).mono ?_; rintro e w4 ⟨rfl, hb4⟩; rw [kA, kA0, kA1, kA2, kA3]; (have hgn := Aw.step (by first | assumption | exact Aw.alloc (by assumption) _) hb4; have hgx := hgn; obtain ⟨e0, e1, e2, e3, _⟩ := hgx))
        | (go_at_call_of 10 (Value.int .i64 C); refine (of_any _ _ _ _ _).mono ?_; rintro e w5 ⟨rfl, hb5⟩; rw [kC, kC0, kC1, kC2, kC3]; (have hgn := Aw.step (by first | assumption | exact Aw.alloc (by assumption) _) hb5; have hgx := hgn; obtain ⟨e0, e1, e2, e3, _⟩ := hgx); have hP := Ap.step (Ap.start _ _ _ _ _) hb5; have hP2 := hP; obtain ⟨p0, p1, p2, p3, p4⟩ := hP2))
      go_ret
      exact ⟨rfl, (Aw.alloc (by assumption : Aw w w5 w2.heap.size k m n) _).bel⟩
  · have e0 : (a0 == c0) = false := by simpa using h0
    obtain ⟨s1, s2⟩ := hS.2 h0
    have e3 : (a3 == c3) = false := by simpa using s1
    have e5 : (a3 != c3) = true := by simpa using s1
    have s3 : ¬ (a3 = c3) := s1
    cases l2 : decide (a0 < c0)
    all_goals
      have lAC : decide (A < C) = decide (a0 < c0) := by rw [Bool.eq_iff_iff]; simp only [decide_eq_true_eq]; exact s2
      rw [l2] at lAC
      clear hS s1 s2 h0
      go_enter Try.func7, Try.ntmps7
      go_wp2_with (first
        | (go_at_call 9; refine (awake_any _).mono ?_; rintro e w1 ⟨rfl, hb1⟩; (have hgn := Aw.step (by first | assumption | exact Aw.alloc (by assumption) _) hb1; have hgx := hgn; obtain ⟨e0, e1, e2, e3, _⟩ := hgx))
        | (go_at_call 32; refine (fit_any _ _ _ _ k1 k2 m1 m2 b1 b2).mono ?_; rintro e w2 ⟨rfl, hb2⟩; rw [hk, hm, hn]; (have hgn := Aw.step (by first | assumption | exact Aw.alloc (by assumption) _) hb2; have hgx := hgn; obtain ⟨e0, e1, e2, e3, _⟩ := hgx); have hG := Aw.start (Aw.bel (by assumption : Aw w w2 w.heap.size K M B)) k m n; generalize hw3 : w2.alloc (.cells #[.int .i64 k, .int .i64 m, .int .i64 n] 23) = w3 at *; have hG2 := hG; obtain ⟨o0, o1, o2, o3, _⟩ := hG2)
        | (go_at_call_of 33 a; refine (pick_any a _ _ x1 x2 (by omega) (by omega)).mono ?_; rintro e w' ⟨rfl, rfl⟩; rw [hA])
        | (go_at_call_of 33 b; refine (pick_any b _ _ y1 y2 (by omega) (by omega)).mono ?_; rintro e w' ⟨rfl, rfl⟩; rw [hC])
        | (go_at_call_of 10 (Value.int .i64 A); refine (of_any _ _ _ _ _).mono ?_; rintro e w4 ⟨rfl, hb4⟩; rw [kA, kA0, kA1, kA2, kA3]; (have hgn := Aw.step (by first | assumption | exact Aw.alloc (by assumption) _) hb4; have hgx := hgn; obtain ⟨e0, e1, e2, e3, _⟩ := hgx))
        | (go_at_call_of 10 (Value.int .i64 C); refine (of_any _ _ _ _ _).mono ?_; rintro e w5 ⟨rfl, hb5⟩; rw [kC, kC0, kC1, kC2, kC3]; (have hgn := Aw.step (by first | assumption | exact Aw.alloc (by assumption) _) hb5; have hgx := hgn; obtain ⟨e0, e1, e2, e3, _⟩ := hgx); have hP := Ap.step (Ap.start _ _ _ _ _) hb5; have hP2 := hP; obtain ⟨p0, p1, p2, p3, p4⟩ := hP2))
      go_ret
      exact ⟨rfl, (Aw.alloc (by assumption : Aw w w5 w2.heap.size k m n) _).bel⟩
end Go.Proofs.Ytfepfmibcjlkiaa
