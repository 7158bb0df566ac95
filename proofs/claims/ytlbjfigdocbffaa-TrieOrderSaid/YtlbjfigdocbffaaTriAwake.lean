/- trie: twelve blocks: awake. -/
import Derived.Test.YtlbjfigdocbffaaTriNew
import Derived.Test.YtlbjfigdocbffaaTriCnt
namespace Go.Proofs.Ytlbjfigdocbffaa
open Go.RowKit
set_option linter.unusedVariables false
set_option linter.unusedSimpArgs false

theorem updX_same (X : Nat → ByteArray) (t : Nat) : updX X t (X t) = X := by
  funext i; unfold updX; split
  · next h => rw [h]
  · rfl
def isF (z : Nat) : Bool := z == 0 || z == 1 || z == 17 || z == 273 || z == 274
set_option maxRecDepth 100000 in
theorem cnt_isF : cntP isF 4369 = 5 := by kernel_rfl
theorem way_isF {f : Nat → Nat} (h : ∀ k, k < 4096 → f k = if k = 1 then 7 else if k = 0 then 3 else 0) : cntP (wayP f) 4369 = 5 := by
  rw [← cnt_isF]
  refine cntP_congr fun z _ => ?_
  rw [Bool.eq_iff_iff, wayP_iff]
  simp only [isF, Bool.or_eq_true, beq_iff_eq]
  refine ⟨?_, fun hz => ?_⟩
  · rintro ⟨k, d, h1, h2, h3, rfl⟩
    rw [h k h1] at h3
    unfold offD
    rcases (show k = 0 ∨ k = 1 from by by_cases e : k = 1 <;> by_cases e2 : k = 0 <;> simp [e, e2] at h3 ⊢) with rfl | rfl <;> rcases (show d = 0 ∨ d = 1 ∨ d = 2 ∨ d = 3 by omega) with rfl | rfl | rfl | rfl <;> simp
  · have f0 : f 0 ≠ 0 := by rw [h 0 (by omega)]; simp
    have f1 : f 1 ≠ 0 := by rw [h 1 (by omega)]; simp
    rcases hz with (((rfl | rfl) | rfl) | rfl) | rfl
    · exact ⟨0, 0, by omega, by omega, f0, rfl⟩
    · exact ⟨0, 1, by omega, by omega, f0, rfl⟩
    · exact ⟨0, 2, by omega, by omega, f0, rfl⟩
    · exact ⟨0, 3, by omega, by omega, f0, rfl⟩
    · exact ⟨1, 3, by omega, by omega, f1, rfl⟩
theorem seg_used {K : Nat} {C : Nat → Nat} (h : Seg K C) : ∀ n, usedTo C n = min n K
  | 0 => by simp [usedTo]
  | n + 1 => by
    rw [used_succ, seg_used h n]
    by_cases z : n < K
    · rw [if_pos ((h n).2 z)]; omega
    · rw [if_neg (fun y => z ((h n).1 y))]; omega
set_option maxRecDepth 100000 in
set_option maxHeartbeats 4000000 in
theorem awake_any (w : World) : Calls Try.prog 8 #[] w (Same2 w (.bool true)) := by
  have cn := new_good 12 w (by decide) (by decide)
  have R0 : ∀ i : Nat, i < 4 → (fun _ => 0 : Nat → Nat) i = 0 := fun _ _ => rfl
  go_enter Try.func8, Try.ntmps8
  go_wp2_with (fail)
  refine cn.mono ?_
  rintro e w1 ⟨rfl, b1, t1⟩
  have cb := blank17_any 12 w1 (by decide)
  go_wp2_with (fail)
  refine cb.mono ?_
  rintro e w2 ⟨u, rfl, o2, b2⟩
  have t2 := t1.below b2 t1.lt
  have hsm : Small 12 cnt0 := ⟨by decide, by decide, fun i => by unfold cnt0; split <;> omega, fun i hi => by unfold cnt0; rw [if_neg (by omega)]⟩
  have cnw := tnew_any w2 w.heap.size 12 u cnt0 t2 hsm o2.reads (fun k hk => ⟨(o2.o.lt k hk).2, by have := (o2.o.lt k hk).1; have := t1.lt; omega⟩)
  have hgw := t1.lt
  have hsz1 := b1.size
  have hsz2 := b2.size
  go_wp2_with (fail)
  refine cnw.mono ?_
  rintro e w3 ⟨rfl, b3, hp3⟩
  have b13 : Below w.heap.size w w3 := b1.trans ((b2.trans (b3.mono b2.size)).mono b1.size)
  obtain ⟨g, hg⟩ : ∃ g, w.heap.size = g := ⟨_, rfl⟩
  obtain ⟨m, hm⟩ : ∃ m, w2.heap.size = m := ⟨_, rfl⟩
  have hgm : g < m := by omega
  rw [hm, hg] at hp3
  rw [← cOf_00] at hp3
  have HB : Hid (∀ W, HTo w3 g m W → Below w.heap.size w W) := Lib.hid fun W hW => b13.trans (hW.below (by omega) (by omega) b13.size)
  clear cn cb cnw b1 b2 b3 t1 t2 o2 hsm b13 hsz1 hsz2 hgw
  obtain ⟨h, hh⟩ : ∃ h, m + 1 = h := ⟨_, rfl⟩
  rw [hh] at hp3
  have hu0 : usedTo (cOf Y00.σ.c) 12 = 3 := by rw [cOf_00]; kernel_rfl
  have ts0 := ts_00 12
  obtain ⟨t, ht, ht0, htl, t3, r, Y1, Z1, G1, lv1, pos1, hr0, ts1, sb1, tf1, gr1, ge1, go1, hset1⟩ := ts_set (n := 12) (at_ := 0) (key := 0) h g m u (fun _ => false) (by omega) ts0 (by omega) (by omega) (Y00.T 3) (by rw [hu0]; omega)
  have seg0 : Seg 3 (cOf Y00.σ.c) := fun i => by rw [cOf_00]; unfold cnt0; split <;> omega
  obtain rfl : t = 3 := seg0.least ht0 htl
  have seg1 : Seg 4 (cOf (upd Y00.σ.c 3 1)) := fun i => by
    by_cases hi : i < 3
    · rw [cOf_lo hi]; omega
    · rw [cOf_hi (by omega)]; unfold upd Y00; by_cases e : i = 3 <;> simp [e] <;> omega
  obtain ⟨a1, _, sg1, c1⟩ := (gr1 (Tri.get_zero _ _ _)).1 4 seg1
  obtain ⟨rfl, c2⟩ := c1 (.inl rfl)
  obtain rfl : r = 4 := c2 (by omega)
  have cal := alloc_some g 12 (cOf Y00.σ.c) w3 hp3.t hp3.small 3 ht ht0 htl
  have HP3 := Lib.hid hp3
  have HS1 := Lib.hid hset1
  clear hset1 gr1 c1 c2 hp3 ts0 seg1 seg0
  go_wp2_with (fail)
  refine cal.mono ?_
  rintro e w4 ⟨rfl, T4⟩
  have hp4 : Hp w4 h g m 12 u (cOf (upd Y00.σ.c 3 1)) (fun _ => false) (updX Y00.T 3 (Y00.T 3)) := by
    have := HP3.out.tab T4 (small_upd HP3.out.small ht (by omega))
    rw [cOf_upd _ t3] at this
    rw [updX_same]; exact this
  have H4 : HTo w3 g m w4 := HTo.tab T4
  have cs1 := HS1.out w4 hp4
  clear T4 hp4 cal HP3
  go_wp2_with (fail)
  refine cs1.mono ?_
  rintro e w5 ⟨rfl, T5, hp5⟩
  have H5 := H4.trans T5
  have root1 := ts1.root (i := 0) (by omega)
  rw [updF_same] at root1
  have root1 := root1 (by omega)
  have e10 : Tri.get Y1.σ.e 3 4 0 = 3 := by rw [ge1]; rfl
  have cf1 := find_spec hp5 ts1.ok ts1.lt (r := 4) (key := 0) (fun _ => root1) (by omega)
  rw [e10] at cf1
  have Hp5 := Lib.hid hp5
  clear T5 hp5 cs1 HS1 H4
  go_wp2_with (fail)
  refine cf1.mono ?_
  rintro e w6 ⟨rfl, q6⟩
  have H6 := H5.trans (HTo.quiet q6)
  have hp6 := Hp5.out.below q6
  obtain ⟨ts2, _, r2n, rc, r255⟩ := ts_inc ts1 (at_ := 1) (by omega) (r := 4) (by rw [updF_other (by omega)]) (j := 0) (by omega) (by rw [updF_same]) (by omega)
  have cinc := inc_good g 12 (cOf Y1.σ.c) 4 w6 hp6.t hp6.small (by omega) (by omega) (by rw [cOf_hi (by omega)]; exact rc) (by rw [cOf_hi (by omega)]; exact r255)
  rw [cOf_hi (by omega), cOf_upd _ (by omega)] at cinc
  have hsm7 : Small 12 (cOf (upd Y1.σ.c 4 (Y1.σ.c 4 + 1))) := by
    rw [← cOf_upd _ (by omega)]; exact small_upd hp6.small (by omega) (by omega)
  have Hp6 := Lib.hid hp6
  clear q6 cf1 Hp5 hp6 H5
  go_wp2_with (fail)
  refine cinc.mono ?_
  rintro e w7 ⟨rfl, T7⟩
  have H7 := H6.trans (HTo.tab T7)
  have hp7 := Hp6.out.tab T7 hsm7
  have seg2 : Seg 7 (cOf (upd Y1.σ.c 4 (Y1.σ.c 4 + 1))) := by
    refine sg1.same fun x => ?_
    by_cases hx : x < 3
    · rw [cOf_lo hx, cOf_lo hx]
    · rw [cOf_hi (by omega), cOf_hi (by omega)]; unfold upd
      by_cases e : x = 4
      · subst e; simp; exact rc
      · rw [if_neg e]
  have u7 := seg_used seg2 12
  have f3 : Y1.σ.c 3 = 1 := by
    have hne : Tri.get Y1.σ.e 3 4 0 ≠ 0 := by rw [e10]; omega
    obtain ⟨y1, y2, _⟩ := ts1.ok.i.get_at 3 4 0 root1.1 root1.2.1 hne
    rw [e10] at y1 y2
    exact one_count ts1 (a := 0) (by omega) (fun i _ hi => updF_other hi) y1 (by omega)
  obtain ⟨t, ht', ht0', htl', t3', r, Y3, Z3, G3, lv3, pos3, hr0', ts3, sb3, tf3, gr3, ge3, go3, hset3⟩ := ts_set (n := 12) (at_ := 1) (key := 1) h g m u Z1 (by omega) ts2 (by omega) (by omega) (Y1.T 7) (by show usedTo (cOf (upd Y1.σ.c 4 (Y1.σ.c 4 + 1))) 12 + 4 ≤ 12; rw [u7]; decide)
  obtain rfl : t = 7 := seg2.least ht0' htl'
  have seg3 : Seg 8 (cOf (upd (upd Y1.σ.c 4 (Y1.σ.c 4 + 1)) 7 1)) := by
    refine seg2.more fun x => ?_
    by_cases hx : x < 3
    · rw [cOf_lo hx, cOf_lo hx]; omega
    · rw [cOf_hi (by omega), cOf_hi (by omega)]; unfold upd
      by_cases e : x = 7
      · rw [if_pos e]; omega
      · rw [if_neg e]; omega
  have hr2 : updF (updF (fun _ => 0) 0 4) 1 4 1 = 4 := updF_same _ _ _
  have hr20 : updF (updF (fun _ => 0) 0 4) 1 4 0 = 4 := by rw [updF_other (by omega), updF_same]
  have gg2 : Tri.get Y1.σ.e 3 4 1 = 0 := by rw [ge1, Tri.get_zero]; rfl
  obtain ⟨k1, k2⟩ := gr3 (by rw [hr2]; exact gg2)
  obtain ⟨a3, _, sg3, c3⟩ := k1 8 seg3
  obtain ⟨rfl, c4⟩ := c3 (.inr (by rw [hr2]; show 2 ≤ upd (upd Y1.σ.c 4 (Y1.σ.c 4 + 1)) 7 1 4; simp [upd]; omega))
  obtain rfl : r = 8 := c4 (by omega)
  have k3 := k2 (by rw [hr2]; show 2 ≤ upd Y1.σ.c 4 (Y1.σ.c 4 + 1) 4; simp [upd]; omega) 0 (by omega) (by rw [hr2]; show Tri.get Y1.σ.e 3 4 0 ≠ 0; rw [e10]; omega)
  rw [hr2] at k3
  replace k3 : Y3.σ.c (Tri.get Y1.σ.e 3 4 0) = upd Y1.σ.c 4 (Y1.σ.c 4 + 1) (Tri.get Y1.σ.e 3 4 0) + 1 := k3
  rw [e10] at k3
  have k4 : Y3.σ.c 3 = 2 := by rw [k3]; simp [upd, f3]
  have cal := alloc_some g 12 (cOf (upd Y1.σ.c 4 (Y1.σ.c 4 + 1))) w7 hp7.t hp7.small 7 ht' ht0' htl'
  rw [hr2] at hset3
  have HP7 := Lib.hid hp7
  have HS3 := Lib.hid hset3
  clear hset3 gr3 k1 k2 c3 c4 hp7 seg3 seg2 cinc T7 Hp6 H6 hsm7
  go_wp2_with (fail)
  refine cal.mono ?_
  rintro e w8 ⟨rfl, T8⟩
  have hp8 : Hp w8 h g m 12 u (cOf (upd (upd Y1.σ.c 4 (Y1.σ.c 4 + 1)) 7 1)) Z1 (updX Y1.T 7 (Y1.T 7)) := by
    have := HP7.out.tab T8 (small_upd HP7.out.small (by omega) (by omega))
    rw [cOf_upd _ (by omega)] at this
    rw [updX_same]; exact this
  have H8 : HTo w3 g m w8 := H7.trans (HTo.tab T8)
  have cs3 := HS3.out w8 hp8
  clear T8 hp8 cal HP7
  go_wp2_with (fail)
  refine cs3.mono ?_
  rintro e w9 ⟨rfl, T9, hp9⟩
  have H9 := H8.trans T9
  have e34 : Tri.get Y3.σ.e 3 4 1 = 0 := by
    have := go3 0 (by omega) (by omega) 1
    rw [hr20] at this
    rw [this]; exact gg2
  have e38 : Tri.get Y3.σ.e 3 8 1 = 7 := by rw [ge3]; rfl
  have ro4 := ts3.root (i := 0) (by omega)
  rw [updF_other (by omega), hr20] at ro4
  have ro8 := ts3.root (i := 1) (by omega)
  rw [updF_same] at ro8
  have cf2 := fun W hW => find_spec (w := W) (h := h) (g := g) (m := m) (n := 12) (u := u) (Z := Z3) hW ts3.ok ts3.lt (r := 4) (key := 1) ro4 (by omega)
  have cf3 := fun W hW => find_spec (w := W) (h := h) (g := g) (m := m) (n := 12) (u := u) (Z := Z3) hW ts3.ok ts3.lt (r := 8) (key := 1) ro8 (by omega)
  rw [e34] at cf2
  rw [e38] at cf3
  have cf4 := cf2 w9 hp9
  have Hp9 := Lib.hid hp9
  clear T9 hp9 cs3 HS3 H8 H7
  go_wp2_with (fail)
  refine cf4.mono ?_
  rintro e w10 ⟨rfl, q10⟩
  have hp10 := Hp9.out.below q10
  have H10 := H9.trans (HTo.quiet q10)
  have cf5 := cf3 w10 hp10
  have Hp10 := Lib.hid hp10
  clear q10 cf4 Hp9 hp10 H9
  go_wp2_with (fail)
  refine cf5.mono ?_
  rintro e w11 ⟨rfl, q11⟩
  have hp11 := Hp10.out.below q11
  have H11 := H10.trans (HTo.quiet q11)
  have cc := count_any g 12 (cOf Y3.σ.c) 3 w11 hp11.t hp11.small
  have ec : cntV 12 (cOf Y3.σ.c) 3 = 2 := by
    show (if (0 : Int) ≤ 3 ∧ (3 : Int) < ((12 : Nat) : Int) then cOf Y3.σ.c 3 else 0) = 2
    rw [if_pos ⟨by omega, by omega⟩, cOf_hi (by omega)]; exact k4
  rw [ec] at cc
  have Hp11 := Lib.hid hp11
  clear q11 cf5 Hp10 hp11 H10
  go_wp2_with (fail)
  refine cc.mono ?_
  rintro e w' ⟨rfl, rfl⟩
  obtain ⟨Y4, G4, ts4, sb4, hT4, he4, hdrop⟩ := ts_drop h g m u Z3 ts3 (at_ := 0) (by omega)
  rw [updF_other (by omega), hr20] at hdrop
  have cd := hdrop w11 Hp11.out
  clear cc hdrop
  go_wp2_with (fail)
  refine cd.mono ?_
  rintro e w12 ⟨rfl, T12, hp12⟩
  have H12 := H11.trans T12
  have Hp12 := Lib.hid hp12
  have HT12 := Lib.hid H12
  have cn1 := tnew_nil w12 (.pointer (some ⟨g, 0, none⟩))
  have cb2 := blank17_any 12 w12 (by decide)
  have cnt : usedTo (cOf Y4.σ.c) 12 = 8 := by
    rw [used_one (by omega) (by omega) ts4 (a := 1) (by omega) (fun i hi hne => by
      unfold updF
      by_cases e0 : i = 0
      · rw [if_pos e0]
      · rw [if_neg e0, if_neg hne, if_neg hne, if_neg e0])]
    rw [updF_other (by omega), updF_same, he4, way_isF fun k hk => ?_]
    rw [ge3 k, Nat.mod_eq_of_lt hk, hr2]
    show (if k = 1 then 7 else Tri.get Y1.σ.e 3 4 k) = _
    rw [ge1 k, Nat.mod_eq_of_lt hk, Tri.get_zero]
  clear cd T12 hp12 H12 Hp11 H11
  have hsm := Hp12.out.small
  have hU : usedTo (cOf Y4.σ.c) 240 = 8 := by rw [← cnt]; exact usedTo_top hsm.z 228
  go_wp2_with (fail)
  refine cn1.mono ?_
  rintro e w' ⟨rfl, rfl⟩
  go_wp2_with (fail)
  refine cb2.mono ?_
  rintro e w13 ⟨u2, rfl, _, q13⟩
  have cn2 := tnew_nil2 w13 u2
  have hp13 := Hp12.out.below q13
  have H13 := HT12.out.trans (HTo.quiet q13)
  have cf := free_any g 12 (cOf Y4.σ.c) w13 hp13.t hp13.small
  rw [hU] at cf
  clear q13 cb2 cn1 hp13
  have HF := Lib.hid H13
  clear H13
  go_wp2_with (fail)
  refine cn2.mono ?_
  rintro e w' ⟨rfl, rfl⟩
  go_wp2_with (fail)
  refine cf.mono ?_
  rintro e w14 ⟨rfl, kk, hk⟩
  have H14 := HB.out _ (HF.out.trans (HTo.quiet (w' := w14) (by rw [hk]; exact below_drewN _ _)))
  have hfin := Lib.hid H14
  clear H14 hk
  go_wp2_with (fail)
  go_ret
  exact ⟨rfl, hfin.out⟩
end Go.Proofs.Ytlbjfigdocbffaa
