/- geo's laws: whatever is asked is answered as the document says. -/
import Derived.Test.YtfepfmibcjlkiaaGeoAwake
namespace Go.Proofs.Ytfepfmibcjlkiaa
open Go.RowKit
set_option linter.unusedVariables false
set_option linter.unusedSimpArgs false
attribute [local go_sem ↓] Go.wp_at_zero Go.wp_at_succ

theorem awCls {w0 w : World} {x : Nat} {K M B : Int} (h : Aw w0 w x K M B) {Z : Type} {f : Z → World} (hD : ∀ z, Below w.heap.size w (f z)) :
    (∀ z, (f z).cell? ⟨x, 0, none⟩ = some (.int .i64 K)) ∧ (∀ z, (f z).cell? ⟨x, 1, none⟩ = some (.int .i64 M)) ∧ (∀ z, (f z).cell? ⟨x, 2, none⟩ = some (.int .i64 B)) := by
  have hz := clsCell hD
  have := h.lt
  exact ⟨fun z => by rw [hz z _ _ (by omega)]; exact h.k, fun z => by rw [hz z _ _ (by omega)]; exact h.m, fun z => by rw [hz z _ _ (by omega)]; exact h.b⟩
set_option maxRecDepth 100000 in
set_option maxHeartbeats 1000000 in
theorem tells_any (K M B b s i : Int) (w : World) (hb : b ≤ 9223372036854775807) (hs : s ≤ 9223372036854775807) :
    Calls Try.prog 3 #[.agg #[.int .i64 K, .int .i64 M, .int .i64 B], .int .i64 b, .int .i64 s, .int .i64 i] w fun e w' => e = .returned (.bool true) ∧ Below w.heap.size w w' := by
  have hq := fun w => eql_place w (oSt K M B b) (oIx K M B b) (oSl K M B b) (oSe K M B b) (oSt K M B b) (oIx K M B b) (oSl K M B b) (oSe K M B b)
  have hqg := eql_place_guard
  have hg0 := Aw.start (w0 := w) (Below.refl _ w) K M B
  go_enter Try.func3, Try.ntmps3
  go_wp2_with (first
    | (go_at_call 9; refine (awake_any _).mono ?_; rintro e w1 ⟨rfl, hb1⟩; (have hgn := Aw.step (by first | assumption | exact Aw.alloc (by assumption) _) hb1; have hgx := hgn; obtain ⟨e0, e1, e2, e3, _⟩ := hgx))
    | (go_at_call 10; refine (of_any _ _ _ _ _).mono ?_; rintro e w2 ⟨rfl, hb2⟩; (have hgn := Aw.step (by first | assumption | exact Aw.alloc (by assumption) _) hb2; have hgx := hgn; obtain ⟨e0, e1, e2, e3, _⟩ := hgx))
    | (go_at_call 11; refine (rof_any _ _ _ _ _).mono ?_; rintro e w3 ⟨rfl, hb3⟩; (have hgn := Aw.step (by first | assumption | exact Aw.alloc (by assumption) _) hb3; have hgx := hgn; obtain ⟨e0, e1, e2, e3, _⟩ := hgx); have hP := Ap.step (Ap.start _ _ _ _ _) hb3)
    | (go_at_call 12; refine (block_any _ _ _ _ _ _).mono ?_; rintro e w4 ⟨rfl, hb4⟩; (have hgn := Aw.step (by first | assumption | exact Aw.alloc (by assumption) _) hb4; have hgx := hgn; obtain ⟨e0, e1, e2, e3, _⟩ := hgx); have hP2 := Ap.step (hP.alloc _) hb4; have hP3 := Ap.step (Ap.start _ _ _ _ _) hb4)
    | (go_at_call 13; refine (rblock_any _ _ _ _ _ _).mono ?_; rintro e w5 ⟨rfl, hb5⟩; (have hgn := Aw.step (by first | assumption | exact Aw.alloc (by assumption) _) hb5; have hgx := hgn; obtain ⟨e0, e1, e2, e3, _⟩ := hgx); have hP4 := hP2.step hb5; have hP5 := hP3.step hb5))
  clear hg0
  refine wp_region_cls (Below w5.heap.size w5) (by kernel_rfl) (by kernel_rfl) (Below.refl _ _).drew ?_
  intro Z f hne hD hE
  obtain ⟨z0, z1, z2⟩ := awCls (by assumption : Aw w w5 w.heap.size K M B) hD
  repeat (go_big_quiet_step (first
    | (go_at_call 14; exact toQB hD hE _ (right_any _ _ _ _))
    | (go_at_call 15; exact toQB hD hE _ (rright_any _ _ _ _))
    | (go_at_call 16; exact toQB hD hE _ (slots_any _ _ _ _))
    | (go_at_call 17; exact toQB hD hE _ (rslots_any _ _ _ _))
    | (go_at_call 18; exact toQB hD hE _ (stripes_any _ _ _ _))
    | (go_at_call 19; exact toQB hD hE _ (rstripes_any _ _ _ _))
    | (go_at_call 20; exact toQB hD hE _ (sectors_any _ _ _ _))
    | (go_at_call 21; exact toQB hD hE _ (rsectors_any _ _ _ _))
    | (go_at_call 22; exact toQB hD hE _ (body_any _ _ _ _))
    | (go_at_call 23; exact toQB hD hE _ (rbody_any _ _ _ _))))
  refine wpQuiet_nil ?_
  intro _ hw'
  obtain ⟨zq, hw''⟩ := hw'
  subst hw''
  have hz := hD zq
  generalize f zq = w6 at *
  go_wp2
  have hg6 := Aw.step (by assumption : Aw w w5 w.heap.size K M B) hz
  have hP6 := hP4.step hz
  have hP7 := hP5.step hz
  clear z0 z1 z2 hD hE hne
  refine wp_region_cls (Below w6.heap.size w6) (by kernel_rfl) (by kernel_rfl) (Below.refl _ _).drew ?_
  intro Z f hne hD hE
  obtain ⟨z0, z1, z2⟩ := awCls hg6 hD
  repeat (go_big_quiet_step (first
    | (go_at_call 24; exact toQB hD hE _ (slot_any _ _ _ _ _ _))
    | (go_at_call 25; exact toQB hD hE _ (rslot_any _ _ _ _ _ _))
    | (go_at_call 26; exact toQB hD hE _ (index_any _ _ _ _ _ _))
    | (go_at_call 27; exact toQB hD hE _ (rindex_any _ _ _ _ _ _))
    | (go_at_call 28; exact toQB hD hE _ (sector_any _ _ _ _ _))
    | (go_at_call 29; exact toQB hD hE _ (rsector_any _ _ _ _ _))
    | (go_at_call 30; exact toQB hD hE _ (head_any _ _ _ _ _ hb))
    | (go_at_call 31; exact toQB hD hE _ (rhead_any _ _ _ _ _ hb))))
  refine wpQuiet_nil ?_
  intro _ hw'
  obtain ⟨zq, hw''⟩ := hw'
  subst hw''
  have hy := hD zq
  generalize f zq = w7 at *
  obtain ⟨p0, p1, p2, p3, p4⟩ := hP6.step hy
  obtain ⟨q0, q1, q2, q3, q4⟩ := hP7.step hy
  have hg7 := Aw.step hg6 hy
  clear z0 z1 z2 hD hE hne
  go_wp2
  go_ret
  exact ⟨rfl, hg7.bel⟩
set_option maxRecDepth 100000 in
set_option maxHeartbeats 1000000 in
theorem rights_any (K M B b s i : Int) (w : World) (k1 : -9223372036854775808 ≤ K) (k2 : K ≤ 9223372036854775807) (m1 : -9223372036854775808 ≤ M) (m2 : M ≤ 9223372036854775807) (b1 : -9223372036854775808 ≤ B) (b2 : B ≤ 9223372036854775807)
    (x1 : -9223372036854775808 ≤ b) (x2 : b ≤ 9223372036854775807) (y1 : -9223372036854775808 ≤ s) (y2 : s ≤ 9223372036854775807) (i1 : -9223372036854775808 ≤ i) (i2 : i ≤ 9223372036854775807) :
    Calls Try.prog 4 #[.agg #[.int .i64 K, .int .i64 M, .int .i64 B], .int .i64 b, .int .i64 s, .int .i64 i] w fun e w' => e = .returned (.bool true) ∧ Below w.heap.size w w' := by
  have hR := fit_right K M B
  obtain ⟨u1, u2, u3, u4, u5, u6⟩ := gR_true hR
  have hS : 1 ≤ gStripes (fK K) (fM M) (fB B) ∧ gStripes (fK K) (fM M) (fB B) ≤ 200 := by
    unfold gStripes; rw [hR, if_pos rfl]; exact div_rng ⟨u1, u2⟩ ⟨u5, u6⟩
  obtain ⟨s1, s2⟩ := hS
  have hw1 : IntKind.i64.wrap (fK K + fM M) = fK K + fM M := IntWalk.i64_in _ (by omega)
  have r1 := pk_rng b (fB B) (by omega)
  have r2 := pk_rng s (gStripes (fK K) (fM M) (fB B)) (by omega)
  have r3 := pk_rng i (fK K + fM M) (by omega)
  have hg0 : Aw w (w.alloc (.cells #[.int .i64 K, .int .i64 M, .int .i64 B] 23)) w.heap.size K M B := Aw.start (w0 := w) (Below.refl _ w) K M B
  go_enter Try.func4, Try.ntmps4
  go_wp2_with (first
    | (go_at_call 32; refine (fit_any _ _ _ _ k1 k2 m1 m2 b1 b2).mono ?_; rintro e w1 ⟨rfl, hb1⟩; have hg1 := hg0.step hb1; have hg2 := Aw.start hg1.bel (fK K) (fM M) (fB B)))
  generalize hwb : w1.alloc (.cells #[.int .i64 (fK K), .int .i64 (fM M), .int .i64 (fB B)] 23) = wb at *
  refine wp_region_cls (Below wb.heap.size wb) (by kernel_rfl) (by kernel_rfl) (Below.refl _ _).drew ?_
  intro Z f hne hD hE
  obtain ⟨z0, z1, z2⟩ := awCls hg2 hD
  repeat (go_big_quiet_step (first
    | (go_at_call_of 33 b; exact toQB hD hE _ ((pick_any b _ _ (by omega) (by omega) (by omega) (by omega)).mono (fun _ _ h => ⟨h.1, h.2 ▸ Below.refl _ _⟩)))
    | (go_at_call_of 33 s; exact toQB hD hE _ ((pick_any s _ _ (by omega) (by omega) (by omega) (by omega)).mono (fun _ _ h => ⟨h.1, h.2 ▸ Below.refl _ _⟩)))
    | (go_at_call_of 33 i; exact toQB hD hE _ ((pick_any i _ _ (by omega) (by omega) (by omega) (by omega)).mono (fun _ _ h => ⟨h.1, h.2 ▸ Below.refl _ _⟩)))
    | (go_at_call 19; exact toQB hD hE _ (rstripes_any _ _ _ _))
    | (go_at_call 3; exact toQB hD hE _ (tells_any _ _ _ _ _ _ _ (by omega) (by omega)))))
  refine wpQuiet_nil ?_
  intro _ hw'
  obtain ⟨zq, hw''⟩ := hw'
  subst hw''
  have hz := hD zq
  have hg3 := Aw.step hg2 hz
  generalize f zq = w6 at *
  clear z0 z1 z2 hD hE hne
  go_wp2
  go_ret
  exact ⟨rfl, hg3.bel⟩
end Go.Proofs.Ytfepfmibcjlkiaa
