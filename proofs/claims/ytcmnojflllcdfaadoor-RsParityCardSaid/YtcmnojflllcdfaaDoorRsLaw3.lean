/- rs's law: fewer than k shards tell nothing. -/
import Derived.Test.YtcmnojflllcdfaaDoorRsLaw1
namespace Go.Proofs.YtcmnojflllcdfaaDoor
open Go.RowKit
set_option linter.unusedVariables false
set_option linter.unusedSimpArgs false

theorem count_on (h : List Bool) (x : Nat) (hx : x < h.length) : (h.set x true).count true = if h.getD x false then h.count true else h.count true + 1 := by
  rw [List.count_set hx, List.getD_eq_getElem?_getD, List.getElem?_eq_getElem hx]
  have hc : h[x] = true → 1 ≤ h.count true := fun e => List.count_pos_iff.2 (e ▸ List.getElem_mem hx)
  cases e : h[x]
  · simp
  · have := hc e; simp; omega
theorem count_none (n : Nat) : (List.replicate n false).count true = 0 := by rw [List.count_replicate]; rfl
theorem count_off (h : List Bool) (x : Nat) (hx : x < h.length) : h.count true ≤ (h.set x false).count true + 1 := by
  rw [List.count_set hx]
  cases e : h[x]
  · simp
  · simp; omega
set_option maxRecDepth 100000 in
set_option maxHeartbeats 4000000 in
theorem fewer_walk (vraw : Value) (raw : List ByteArray) (k : Int) (m : Int) (vthere : Value) (there : List Int) (w : World) (ht : Tabs w) (Rraw : Reads w vraw (tx raw)) (Fraw : Fits raw) (hk : -9223372036854775808 ≤ k ∧ k ≤ 9223372036854775807) (hm : -9223372036854775808 ≤ m ∧ m ≤ 9223372036854775807) (Rthere : Reads w vthere (iv there)) (lthere : there.length ≤ 140737488351232) (xthere : ∀ i, i < there.length → -9223372036854775808 ≤ there.getD i 0 ∧ there.getD i 0 ≤ 9223372036854775807)  :
    Calls Tryd.prog 6 #[vraw, .int .i64 k, .int .i64 m, vthere] w (Says w (.bool true)) := by
  obtain ⟨p, hp, hpk⟩ := pick3_nat k 8 hk.1 hk.2 (by decide) (by decide)
  obtain ⟨q, hq, hpm⟩ := pick3_nat m 8 hm.1 hm.2 (by decide) (by decide)
  obtain ⟨K, hK⟩ : ∃ N : Nat, N = 1 + p := ⟨_, rfl⟩
  have hK1 : 1 + (p : Int) = (K : Int) := by omega
  obtain ⟨M, hM⟩ : ∃ N : Nat, N = 1 + q := ⟨_, rfl⟩
  have hM1 : 1 + (q : Int) = (M : Int) := by omega
  have k1 : 1 ≤ K := by omega
  have k2 : K ≤ 8 := by omega
  have m1 : 1 ≤ M := by omega
  have m2 : M ≤ 8 := by omega
  clear hK hM
  obtain ⟨S, hS⟩ : ∃ S : Nat, S = K + M := ⟨_, rfl⟩
  have hS1 : (K : Int) + (M : Int) = (S : Int) := by omega
  have s1 : S ≤ 16 := by omega
  have hS' := Lib.hid hS
  clear hS
  have cD := fun W v hv => data_any v raw K 5 W hv Fraw (by omega) (by omega)
  have rD := dataL_rect raw K 5
  generalize dataL raw K 5 = data at *
  have fD := rD.fits (by omega) (by omega)
  obtain ⟨g1, g2, rP⟩ := enc_good rD k1 k2 m1 m2 (by decide) (by decide)
  have cP := fun W hW v hv => encode_any v data (M : Int) W hW hv fD
  rw [g1, g2] at cP
  have rW := word_rect rD k1 k2 m1 m2 (by decide) (by decide)
  have fW := rW.fits (by omega) (by omega)
  have hW := Lib.hid (show wordL data K M = data ++ parL data K M from rfl)
  have hgd : ∀ hv : List Bool, hv.length = K + M → Good data K M (wordL data K M) hv := fun hv h => ⟨rW.l, h, fun _ _ _ => rfl⟩
  have hfew := Lib.hid (fun (hv : List Bool) (h1 : hv.length = K + M) (h2 : hv.count true < K) => decode_few (hgd hv h1) rD k1 k2 m1 m2 (by decide) (by decide) h2)
  have cB := Lib.hid (fun W hW va vh hv hA hh (h : hv.length = K + M) => decode_any (M : Int) va vh (wordL data K M) hv W hW hA hh fW (by rw [rW.l]; omega) (by omega))
  have hld := Lib.hid (show data.length + (parL data K M).length ≤ 100 by rw [rD.l, rP.l]; omega)
  generalize wordL data K M = word at *
  generalize parL data K M = par at *
  have hlth := fun W => Rthere.len_run (P := Tryd.prog) Tryd.underlying33 3 W
  rw [iv_length] at hlth
  have hxs := Lib.hid xthere
  clear g1 g2 rP rD fD rW fW hgd xthere
  go_enter Tryd.func6, Tryd.ntmps6
  go_wp2_with (fail)
  refine (rsawake_any _ ht).mono ?_
  rintro e w1 ⟨rfl, b1⟩
  have t1 := ht.below b1 ht.two
  go_wp2_with (fail)
  refine (hpk _).mono ?_
  rintro e wq ⟨rfl, rfl⟩
  go_wp2_with (fail)
  refine (hpm _).mono ?_
  rintro e wq ⟨rfl, rfl⟩
  go_wp2_with (fail)
  have q0 := Rraw.below b1
  refine (cD _ _ q0).mono ?_
  rintro e w2 ⟨v2, rfl, o2, b2⟩
  have t2 := t1.below b2 t1.two
  have r2_d := o2.reads
  go_wp2_with (fail)
  refine (cP _ t2 _ r2_d).mono ?_
  rintro e w3 ⟨v3, rfl, o3, b3⟩
  have t3 := t2.below b3 t2.two
  have r3_d := r2_d.below b3
  have r3_p := o3.reads
  obtain ⟨w4, hmk, p4, c4⟩ := have_run w3 S (by omega)
  have bw := below_c (below_c b1 b2) b3
  go_wp2_with (fail)
  go_loopw [14, 15, 16] (fun c i _ wr => ∃ (t : Nat) (hv : List Bool), t ≤ there.length ∧ t + 1 ≤ K ∧ i = .int .i64 (t : Int) ∧ c = .int .i64 ((hv.count true : Nat) : Int) ∧ hv.count true ≤ t ∧ Hid (hv.length = S) ∧ Own wr w3.heap.size 4 (.slice (some ⟨w3.heap.size, 0, none⟩) S S) (bv hv) ∧ Below w3.heap.size w3 wr) (fun _ i _ _ => there.length - (intOf i).toNat)
  case atStart => exact ⟨0, List.replicate S false, by omega, by omega, rfl, by rw [count_none]; rfl, by rw [count_none]; omega, Lib.hid List.length_replicate, p4, c4⟩
  case round =>
    obtain ⟨t, hv, ht1, ht2, rfl, rfl, hct, hlv, hown, hbel⟩ := hrel
    by_cases hgo : t < there.length ∧ t + 1 < K
    · obtain ⟨h1, h2⟩ := hgo
      have b1 : (t : Int) < (there.length : Int) := by omega
      have b2 : (t : Int) < (K : Int) - 1 := by omega
      obtain ⟨y1, y2⟩ := hxs.out t h1
      have Rq := (Rthere.below bw).below hbel
      rcases Rq with ⟨_, e⟩ | ⟨b, off, cap, rfl, hb, hc⟩
      · have := congrArg List.length e; rw [iv_length, List.length_nil] at this; omega
      have hck := hc t (by rw [iv_length]; exact h1)
      rw [iv_getD there h1] at hck
      have b1' : (t : Int) < ((iv there).length : Int) := by rw [iv_length]; exact b1
      clear hc
      generalize there.getD t 0 = x at *
      obtain ⟨p', hp', hpick⟩ := pick3_nat x (S : Int) y1 y2 (by omega) (by omega)
      have hlv' := hlv.out
      have hcp := hown.cell (i := p') (by rw [bv_length, hlv']; omega)
      rw [bv_getD hv (by omega)] at hcp
      have hfp := hown.frozen p'
      have hgl := hown.lt
      have hon := count_on hv p' (by omega)
      have hst := Lib.hid (show bv (hv.set p' true) = (bv hv).set p' (.bool true) by rw [bv, bv, List.map_set])
      have hls : Hid ((hv.set p' true).length = S) := Lib.hid (by rw [List.length_set]; exact hlv')
      generalize hv.set p' true = hv2 at *
      obtain ⟨C, hC⟩ : ∃ C, C = hv.count true := ⟨_, rfl⟩
      obtain ⟨C2, hC2⟩ : ∃ C, C = hv2.count true := ⟨_, rfl⟩
      rw [← hC, ← hC2] at hon
      rw [← hC] at hct ⊢
      have hC2' := Lib.hid hC2
      clear hlv' hC2 hC
      cases hb0 : hv.getD p' false
      · rw [hb0] at hcp hon
        have hon' : Hid (C2 = C + 1) := Lib.hid (by simpa using hon)
        clear hon hb0
        go_wp2_with (fail)
        refine (hpick _).mono ?_
        rintro e wq ⟨rfl, rfl⟩
        go_wp2_with (fail)
        go_roundw
        case rel => exact ⟨t + 1, hv2, by omega, by omega, by go_num, by rw [← hC2'.out, hon'.out]; go_num, by rw [← hC2'.out, hon'.out]; omega, hls, by rw [hst.out]; exact hown.set p' _, hbel.setCell (Nat.le_refl _) _⟩
        case measure => simp [intOf]; omega
      · rw [hb0] at hcp hon
        have hon' : Hid (C2 = C) := Lib.hid (by simpa using hon)
        clear hon hb0
        go_wp2_with (fail)
        refine (hpick _).mono ?_
        rintro e wq ⟨rfl, rfl⟩
        go_wp2_with (fail)
        go_roundw
        case rel => exact ⟨t + 1, hv2, by omega, by omega, by go_num, by rw [← hC2'.out, hon'.out], by rw [← hC2'.out, hon'.out]; omega, hls, by rw [hst.out]; exact hown.set p' _, hbel.setCell (Nat.le_refl _) _⟩
        case measure => simp [intOf]; omega
    · have r2 := r3_d.below hbel
      have r3 := o3.reads.below hbel
      obtain ⟨u1, w5, u2, w6, ha1, ha2, p6, c6⟩ := word_run r2 r3 (by have := hld.out; omega)
      rw [← hW.out] at p6
      have hlK : hv.count true < K := by omega
      have hlv' := hlv.out
      have hH := hS'.out
      obtain ⟨e1, e2⟩ := hfew.out hv (by omega) hlK
      have tr := t3.below (hbel.trans (c6.mono hbel.size)) t3.two
      have cd := fun W hW va vh hA hh => cB.out W hW va vh hv hA hh (by omega)
      rw [e1, e2] at cd
      obtain ⟨C, hC⟩ : ∃ C, C = hv.count true := ⟨_, rfl⟩
      rw [← hC] at hct hlK ⊢
      clear e1 e2 hlv' hH hC
      have b9 : (C : Int) < (K : Int) := by omega
      by_cases h1 : t < there.length
      · have b1 : (t : Int) < (there.length : Int) := by omega
        have b2 : decide ((t : Int) < (K : Int) - 1) = false := by rw [decide_eq_false_iff_not]; omega
        go_wp2_with (at_builtin; first | refine wpList_append_run ha1 _ _ rfl rfl rfl rfl rfl ?_ | refine wpList_append_run ha2 _ _ rfl rfl rfl rfl rfl ?_)
        refine (cd _ tr _ _ p6.reads (hown.reads.below c6)).mono ?_
        rintro e w7 ⟨v7, rfl, o7, b7⟩
        have lw := fun W => (o7.reads).len_run (P := Tryd.prog) Tryd.underlying22 3 W
        go_wp2_with (fail)
        go_ret
        exact ⟨rfl, below_c (below_c (below_c bw hbel) c6) b7⟩
      · have b1 : decide (t < there.length) = false := by rw [decide_eq_false_iff_not]; omega
        go_wp2_with (at_builtin; first | refine wpList_append_run ha1 _ _ rfl rfl rfl rfl rfl ?_ | refine wpList_append_run ha2 _ _ rfl rfl rfl rfl rfl ?_)
        refine (cd _ tr _ _ p6.reads (hown.reads.below c6)).mono ?_
        rintro e w7 ⟨v7, rfl, o7, b7⟩
        have lw := fun W => (o7.reads).len_run (P := Tryd.prog) Tryd.underlying22 3 W
        go_wp2_with (fail)
        go_ret
        exact ⟨rfl, below_c (below_c (below_c bw hbel) c6) b7⟩
end Go.Proofs.YtcmnojflllcdfaaDoor
