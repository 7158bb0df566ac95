/- geo's laws: from one stripe to the next. -/
import Derived.Test.YtfepfmibcjlkiaaGeoLaw2
namespace Go.Proofs.Ytfepfmibcjlkiaa
open Go.RowKit
set_option linter.unusedVariables false
set_option linter.unusedSimpArgs false
attribute [local go_sem ↓] Go.wp_at_zero Go.wp_at_succ

set_option maxRecDepth 100000 in
set_option maxHeartbeats 2000000 in
theorem turn_any (K M B a b : Int) (w : World) (k1 : -9223372036854775808 ≤ K) (k2 : K ≤ 9223372036854775807) (m1 : -9223372036854775808 ≤ M) (m2 : M ≤ 9223372036854775807) (b1 : -9223372036854775808 ≤ B) (b2 : B ≤ 9223372036854775807)
    (x1 : -9223372036854775808 ≤ a) (x2 : a ≤ 9223372036854775807) (y1 : -9223372036854775808 ≤ b) (y2 : b ≤ 9223372036854775807) :
    Calls Try.prog 8 #[.agg #[.int .i64 K, .int .i64 M, .int .i64 B], .int .i64 a, .int .i64 b] w fun e w' => e = .returned (.bool true) ∧ Below w.heap.size w w' := by
  have hR := fit_right K M B
  obtain ⟨k, hk⟩ : ∃ k, fK K = k := ⟨_, rfl⟩
  obtain ⟨m, hm⟩ : ∃ m, fM M = m := ⟨_, rfl⟩
  obtain ⟨q, hq⟩ : ∃ q, fB B = q := ⟨_, rfl⟩
  rw [hk, hm, hq] at hR
  obtain ⟨u1, u2, u3, u4, u5, u6⟩ := gR_true hR
  have hS := stripes_eq hR
  have hn := slots_eq hR
  obtain ⟨S, fS⟩ : ∃ S, gStripes k m q = S := ⟨_, rfl⟩
  rw [fS] at hS
  have hS2 : 2 ≤ S ∧ S ≤ 200 := by rw [hS]; rcases (k_cases hR).1 with rfl | rfl | rfl | rfl <;> omega
  have r1 := pk_rng a (S - 1) (by omega)
  have r2 := pk_rng b (k + m) (by omega)
  obtain ⟨A, hA⟩ : ∃ A, pk a (S - 1) = A := ⟨_, rfl⟩
  obtain ⟨C, hC⟩ : ∃ C, pk b (k + m) = C := ⟨_, rfl⟩
  rw [hA] at r1
  rw [hC] at r2
  obtain ⟨x, fx⟩ : ∃ x, gSlot k m q (A + 1) C = x := ⟨_, rfl⟩
  obtain ⟨y, fy⟩ : ∃ y, gSlot k m q A C = y := ⟨_, rfl⟩
  have gx : x = (C + (A + 1)) % (k + m) := by rw [← fx]; exact slot_eq (by omega) (by omega) (by omega) (by omega)
  have gy : y = (C + A) % (k + m) := by rw [← fy]; exact slot_eq (by omega) (by omega) (by omega) (by omega)
  obtain ⟨s, fs⟩ : ∃ s, gSector k m q (A + 1) = s := ⟨_, rfl⟩
  obtain ⟨t, ft⟩ : ∃ t, gSector k m q A = t := ⟨_, rfl⟩
  have gs : s = t + 1 := by rw [← fs, ← ft, sector_eq hR (by omega) (by omega), sector_eq hR (by omega) (by omega)]; omega
  have gt : t = 4 + 32 * k + A := by rw [← ft]; exact sector_eq hR (by omega) (by omega)
  have E1 := fun W => slot_any k m q (A + 1) C W
  have E2 := fun W => slot_any k m q A C W
  have E3 := fun W => sector_any k m q (A + 1) W
  have E4 := fun W => sector_any k m q A W
  rw [fx] at E1; rw [fy] at E2; rw [fs] at E3; rw [ft] at E4
  have z0 : 0 ≤ y ∧ y < k + m := by rw [gy]; exact ⟨Int.emod_nonneg _ (by omega), Int.emod_lt_of_pos _ (by omega)⟩
  have zx : 0 ≤ x ∧ x < k + m := by rw [gx]; exact ⟨Int.emod_nonneg _ (by omega), Int.emod_lt_of_pos _ (by omega)⟩
  have z1 : (y + 1) % (k + m) = x := by
    rw [gx, gy]
    obtain ⟨hk', hm', _⟩ := k_cases hR
    clear hA hC hk hm hq fx fy fs ft E1 E2 E3 E4 hS hn fS gx gy gs gt hR
    rcases hk' with rfl | rfl | rfl | rfl <;> rcases hm' with rfl | rfl | rfl <;> omega
  have v1 : IntKind.i64.wrap (A + 1) = A + 1 := IntWalk.i64_in _ (by omega)
  have v2 : IntKind.i64.wrap (y + 1) = y + 1 := IntWalk.i64_in _ (by omega)
  have v3 : IntKind.i64.wrap ((y + 1).tmod (k + m)) = x := by rw [Int.tmod_eq_emod_of_nonneg (by omega), z1]; exact IntWalk.i64_in _ (by omega)
  have v4 : IntKind.i64.wrap (t + 1) = s := by rw [gs]; exact IntWalk.i64_in _ (by omega)
  have n0 : ¬ (k + m = 0) := by omega
  have n1 : (k + m == 0) = false := by simpa using n0
  have n2 : decide (S < 2) = false := by simp; omega
  clear gx gy gt hS
  have hg0 : Aw w (w.alloc (.cells #[.int .i64 K, .int .i64 M, .int .i64 B] 23)) w.heap.size K M B := Aw.start (w0 := w) (Below.refl _ w) K M B
  go_enter Try.func8, Try.ntmps8
  go_wp2_with (first
    | (go_at_call 9; refine (awake_any _).mono ?_; rintro e w1 ⟨rfl, hb1⟩; (have hgn := Aw.step (by first | assumption | exact Aw.alloc (by assumption) _) hb1; have hgx := hgn; obtain ⟨e0, e1, e2, e3, _⟩ := hgx))
    | (go_at_call 32; refine (fit_any _ _ _ _ k1 k2 m1 m2 b1 b2).mono ?_; rintro e w2 ⟨rfl, hb2⟩; rw [hk, hm, hq]; (have hgn := Aw.step (by first | assumption | exact Aw.alloc (by assumption) _) hb2; have hgx := hgn; obtain ⟨e0, e1, e2, e3, _⟩ := hgx); have hG := Aw.start (Aw.bel (by assumption : Aw w w2 w.heap.size K M B)) k m q; generalize hw3 : w2.alloc (.cells #[.int .i64 k, .int .i64 m, .int .i64 q] 23) = w3 at *; have hG2 := hG; obtain ⟨o0, o1, o2, o3, _⟩ := hG2)
    | (go_at_call 16; refine (slots_any _ _ _ _).mono ?_; rintro e w4 ⟨rfl, hb4⟩; rw [hn]; (have hgn := Aw.step (by first | assumption | exact Aw.alloc (by assumption) _) hb4; have hgx := hgn; obtain ⟨e0, e1, e2, e3, _⟩ := hgx))
    | (go_at_call 18; refine (stripes_any _ _ _ _).mono ?_; rintro e w5 ⟨rfl, hb5⟩; rw [fS]; (have hgn := Aw.step (by first | assumption | exact Aw.alloc (by assumption) _) hb5; have hgx := hgn; obtain ⟨e0, e1, e2, e3, _⟩ := hgx))
    | (go_at_call_of 33 a; refine (pick_any a _ _ x1 x2 (by omega) (by omega)).mono ?_; rintro e w' ⟨rfl, rfl⟩; rw [hA])
    | (go_at_call_of 33 b; refine (pick_any b _ _ y1 y2 (by omega) (by omega)).mono ?_; rintro e w' ⟨rfl, rfl⟩; rw [hC]))
  have hg6 := (by assumption : Aw w w5 w2.heap.size k m q)
  refine wp_region_cls (Below w5.heap.size w5) (by kernel_rfl) (by kernel_rfl) (Below.refl _ _).drew ?_
  intro Z f hne hD hE
  obtain ⟨z0, z1, z2⟩ := awCls hg6 hD
  repeat (go_big_quiet_step (first
    | (go_at_call_of 24 (Value.int .i64 A); exact toQB hD hE _ (E2 _))
    | (go_at_call 24; exact toQB hD hE _ (E1 _))
    | (go_at_call_of 28 (Value.int .i64 A); exact toQB hD hE _ (E4 _))
    | (go_at_call 28; exact toQB hD hE _ (E3 _))))
  refine wpQuiet_nil ?_
  intro _ hw'
  obtain ⟨zq, hw''⟩ := hw'
  subst hw''
  have hz := hD zq
  have hg7 := Aw.step hg6 hz
  generalize f zq = w7 at *
  clear z0 z1 z2 hD hE hne
  go_wp2
  go_ret
  exact ⟨rfl, hg7.bel⟩
end Go.Proofs.Ytfepfmibcjlkiaa
