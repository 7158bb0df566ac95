/- geo's laws: Slot and Index undo one another. -/
import Derived.Test.YtfepfmibcjlkiaaGeoLaw2
namespace Go.Proofs.Ytfepfmibcjlkiaa
open Go.RowKit
set_option linter.unusedVariables false
set_option linter.unusedSimpArgs false
attribute [local go_sem ↓] Go.wp_at_zero Go.wp_at_succ

set_option maxRecDepth 100000 in
set_option maxHeartbeats 2000000 in
theorem turns_any (K M B a b c : Int) (w : World) (k1 : -9223372036854775808 ≤ K) (k2 : K ≤ 9223372036854775807) (m1 : -9223372036854775808 ≤ M) (m2 : M ≤ 9223372036854775807) (b1 : -9223372036854775808 ≤ B) (b2 : B ≤ 9223372036854775807)
    (x1 : -9223372036854775808 ≤ a) (x2 : a ≤ 9223372036854775807) (y1 : -9223372036854775808 ≤ b) (y2 : b ≤ 9223372036854775807) (i1 : -9223372036854775808 ≤ c) (i2 : c ≤ 9223372036854775807) :
    Calls Try.prog 6 #[.agg #[.int .i64 K, .int .i64 M, .int .i64 B], .int .i64 a, .int .i64 b, .int .i64 c] w fun e w' => e = .returned (.bool true) ∧ Below w.heap.size w w' := by
  have hR := fit_right K M B
  obtain ⟨k, hk⟩ : ∃ k, fK K = k := ⟨_, rfl⟩
  obtain ⟨m, hm⟩ : ∃ m, fM M = m := ⟨_, rfl⟩
  obtain ⟨q, hq⟩ : ∃ q, fB B = q := ⟨_, rfl⟩
  rw [hk, hm, hq] at hR
  obtain ⟨u1, u2, u3, u4, u5, u6⟩ := gR_true hR
  have hS := stripes_eq hR
  have hn := slots_eq hR
  obtain ⟨S, fS⟩ : ∃ S, gStripes k m q = S := ⟨_, rfl⟩
  rw [fS] at hS
  have hS2 : 2 ≤ S ∧ S ≤ 200 := by rw [hS]; rcases (k_cases hR).1 with rfl | rfl | rfl | rfl <;> omega
  have r1 := pk_rng a S (by omega)
  have r2 := pk_rng b (k + m) (by omega)
  have r3 := pk_rng c (k + m) (by omega)
  obtain ⟨A, hA⟩ : ∃ A, pk a S = A := ⟨_, rfl⟩
  obtain ⟨C, hC⟩ : ∃ C, pk b (k + m) = C := ⟨_, rfl⟩
  obtain ⟨D, hD0⟩ : ∃ D, pk c (k + m) = D := ⟨_, rfl⟩
  rw [hA] at r1
  rw [hC] at r2
  rw [hD0] at r3
  obtain ⟨x, fx⟩ : ∃ x, gSlot k m q A C = x := ⟨_, rfl⟩
  obtain ⟨y, fy⟩ : ∃ y, gSlot k m q A D = y := ⟨_, rfl⟩
  obtain ⟨z, fz⟩ : ∃ z, gIndex k m q A D = z := ⟨_, rfl⟩
  have gx : x = (C + A) % (k + m) := by rw [← fx]; exact slot_eq (by omega) (by omega) (by omega) (by omega)
  have gy : y = (D + A) % (k + m) := by rw [← fy]; exact slot_eq (by omega) (by omega) (by omega) (by omega)
  have gz : z = (D + (k + m) - A % (k + m)) % (k + m) := by rw [← fz]; exact index_eq (by omega) (by omega) (by omega) (by omega)
  have zx : 0 ≤ x ∧ x < k + m := by rw [gx]; exact ⟨Int.emod_nonneg _ (by omega), Int.emod_lt_of_pos _ (by omega)⟩
  have zz : 0 ≤ z ∧ z < k + m := by rw [gz]; exact ⟨Int.emod_nonneg _ (by omega), Int.emod_lt_of_pos _ (by omega)⟩
  have hI : gIndex k m q A x = (x + (k + m) - A % (k + m)) % (k + m) := index_eq (by omega) (by omega) (by omega) (by omega)
  have hT : gSlot k m q A z = (z + A) % (k + m) := slot_eq (by omega) (by omega) (by omega) (by omega)
  have fI : (x + (k + m) - A % (k + m)) % (k + m) = C ∧ (z + A) % (k + m) = D ∧ (x = y ↔ C = D) := by
    obtain ⟨hk', hm', _⟩ := k_cases hR
    clear hA hC hD0 hk hm hq fx fy fz hS hn fS hR hI hT
    rcases hk' with rfl | rfl | rfl | rfl <;> rcases hm' with rfl | rfl | rfl <;> omega
  rw [fI.1] at hI
  rw [fI.2.1] at hT
  obtain ⟨P, hP⟩ : ∃ P, S * k = P := ⟨_, rfl⟩
  obtain ⟨R, hRR⟩ : ∃ R, (S - 1) * k = R := ⟨_, rfl⟩
  have hPR : q ≤ P ∧ R < q ∧ 0 ≤ R ∧ P ≤ 1000 := by
    rw [← hP, ← hRR, hS]
    obtain ⟨hk', hm', _⟩ := k_cases hR
    rcases hk' with rfl | rfl | rfl | rfl <;> omega
  have v1 : IntKind.i64.wrap (S * k) = P := by rw [hP]; exact IntWalk.i64_in _ (by omega)
  have v2 : IntKind.i64.wrap (S - 1) = S - 1 := IntWalk.i64_in _ (by omega)
  have v3 : IntKind.i64.wrap ((S - 1) * k) = R := by rw [hRR]; exact IntWalk.i64_in _ (by omega)
  have v4 : IntKind.i64.wrap (k + m) = k + m := IntWalk.i64_in _ (by omega)
  have t1 : decide (P < q) = false := by simp; omega
  have t2 : decide (q ≤ R) = false := by simp; omega
  have t3 : decide (0 ≤ x) = true := by simp; omega
  have t4 : decide (x < k + m) = true := by simp; omega
  have E1 := fun W => stripes_any k m q W
  have E2 := fun W => index_any k m q A x W
  have E3 := fun W => index_any k m q A D W
  have E4 := fun W => slot_any k m q A z W
  rw [fS] at E1; rw [hI] at E2; rw [fz] at E3; rw [hT] at E4
  have sxy := fI.2.2
  clear gx gy gz hS fI hP hRR hI hT
  have hg0 : Aw w (w.alloc (.cells #[.int .i64 K, .int .i64 M, .int .i64 B] 23)) w.heap.size K M B := Aw.start (w0 := w) (Below.refl _ w) K M B
  cases e2 : (x == y)
  all_goals
    have eCD : (C == D) = (x == y) := by rw [Bool.eq_iff_iff]; simp only [beq_iff_eq]; exact sxy.symm
    rw [e2] at eCD
    clear sxy
    go_enter Try.func6, Try.ntmps6
    go_wp2_with (first
      | (go_at_call 9; refine (awake_any _).mono ?_; rintro e w1 ⟨rfl, hb1⟩; (have hgn := Aw.step (by first | assumption | exact Aw.alloc (by assumption) _) hb1; have hgx := hgn; obtain ⟨e0, e1, e2, e3, _⟩ := hgx))
      | (go_at_call 32; refine (fit_any _ _ _ _ k1 k2 m1 m2 b1 b2).mono ?_; rintro e w2 ⟨rfl, hb2⟩; rw [hk, hm, hq]; (have hgn := Aw.step (by first | assumption | exact Aw.alloc (by assumption) _) hb2; have hgx := hgn; obtain ⟨e0, e1, e2, e3, _⟩ := hgx); have hG := Aw.start (Aw.bel (by assumption : Aw w w2 w.heap.size K M B)) k m q; generalize hw3 : w2.alloc (.cells #[.int .i64 k, .int .i64 m, .int .i64 q] 23) = w3 at *; have hG2 := hG; obtain ⟨o0, o1, o2, o3, _⟩ := hG2)
      | (go_at_call 16; refine (slots_any _ _ _ _).mono ?_; rintro e w4 ⟨rfl, hb4⟩; rw [hn]; (have hgn := Aw.step (by first | assumption | exact Aw.alloc (by assumption) _) hb4; have hgx := hgn; obtain ⟨e0, e1, e2, e3, _⟩ := hgx)))
    have hg4 := (by assumption : Aw w w4 w2.heap.size k m q)
    refine wp_region_cls (Below w4.heap.size w4) (by kernel_rfl) (by kernel_rfl) (Below.refl _ _).drew ?_
    intro Z f hne hD hE
    obtain ⟨z0, z1, z2⟩ := awCls hg4 hD
    repeat (go_big_quiet_step (first
      | (go_at_call 18; exact toQB hD hE _ (E1 _))))
    refine wpQuiet_nil ?_
    intro _ hw'
    obtain ⟨zq, hw''⟩ := hw'
    subst hw''
    have hz := hD zq
    have hg5 := Aw.step hg4 hz
    generalize f zq = w5 at *
    clear z0 z1 z2 hD hE hne
    have hg5' := hg5
    obtain ⟨o0, o1, o2, o3, _⟩ := hg5'
    go_wp2_with (first
      | (go_at_call 18; refine (stripes_any _ _ _ _).mono ?_; rintro e w6 ⟨rfl, hb6⟩; rw [fS]; (have hgn := Aw.step (by first | assumption | exact Aw.alloc (by assumption) _) hb6; have hgx := hgn; obtain ⟨e0, e1, e2, e3, _⟩ := hgx))
      | (go_at_call_of 33 a; refine (pick_any a _ _ x1 x2 (by omega) (by omega)).mono ?_; rintro e w' ⟨rfl, rfl⟩; rw [hA])
      | (go_at_call_of 33 b; refine (pick_any b _ _ y1 y2 (by omega) (by omega)).mono ?_; rintro e w' ⟨rfl, rfl⟩; rw [hC])
      | (go_at_call_of 33 c; refine (pick_any c _ _ i1 i2 (by omega) (by omega)).mono ?_; rintro e w' ⟨rfl, rfl⟩; rw [hD0])
      | (go_at_call_of 24 (Value.int .i64 C); refine (slot_any _ _ _ _ _ _).mono ?_; rintro e w7 ⟨rfl, hb7⟩; rw [fx]; (have hgn := Aw.step (by first | assumption | exact Aw.alloc (by assumption) _) hb7; have hgx := hgn; obtain ⟨e0, e1, e2, e3, _⟩ := hgx))
      | (go_at_call 24; refine (slot_any _ _ _ _ _ _).mono ?_; rintro e w8 ⟨rfl, hb8⟩; rw [fy]; (have hgn := Aw.step (by first | assumption | exact Aw.alloc (by assumption) _) hb8; have hgx := hgn; obtain ⟨e0, e1, e2, e3, _⟩ := hgx)))
    have hg8 := (by assumption : Aw w w8 w2.heap.size k m q)
    refine wp_region_cls (Below w8.heap.size w8) (by kernel_rfl) (by kernel_rfl) (Below.refl _ _).drew ?_
    intro Z f hne hD hE
    obtain ⟨z0, z1, z2⟩ := awCls hg8 hD
    repeat (go_big_quiet_step (first
      | (go_at_call_of 26 (Value.int .i64 x); exact toQB hD hE _ (E2 _))
      | (go_at_call 26; exact toQB hD hE _ (E3 _))
      | (go_at_call 24; exact toQB hD hE _ (E4 _))))
    refine wpQuiet_nil ?_
    intro _ hw'
    obtain ⟨zq, hw''⟩ := hw'
    subst hw''
    have hy := hD zq
    have hg9 := Aw.step hg8 hy
    generalize f zq = w9 at *
    clear z0 z1 z2 hD hE hne
    go_wp2
    go_ret
    exact ⟨rfl, hg9.bel⟩
end Go.Proofs.Ytfepfmibcjlkiaa
