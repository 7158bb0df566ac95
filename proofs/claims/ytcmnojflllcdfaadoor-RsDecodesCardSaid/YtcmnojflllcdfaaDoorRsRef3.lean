/- rs: the document's own Decode. -/
import Derived.Test.YtcmnojflllcdfaaDoorRsRef2
namespace Go.Proofs.YtcmnojflllcdfaaDoor
open Go.RowKit
set_option linter.unusedVariables false
set_option linter.unusedSimpArgs false

set_option maxRecDepth 100000 in
set_option maxHeartbeats 2000000 in
theorem rdecode_form (m : Int) (vs vh : Value) (shards : List ByteArray) (hv : List Bool) (w : World) (hS : Reads w vs (tx shards)) (hH : Reads w vh (bv hv)) (hn : shards.length ≤ 1000000) (hh : hv.length ≤ 140737488355328) (m1 : -9223372036854775808 ≤ m) (m2 : m ≤ 9223372036854775807) (h : decB m shards hv = false) :
    Calls Tryd.prog 20 #[.int .i64 m, vs, vh] w (GivesL w (decL m shards hv) (decE m shards hv)) := by
  have hz : Hid (decO m shards hv = false) := Lib.hid (by rw [decO, h]; rfl)
  have h' := Lib.hid h
  clear h
  have ls := fun W => hS.len_run (P := Tryd.prog) Tryd.underlying22 3 W
  have lh := fun W => hH.len_run (P := Tryd.prog) Tryd.underlying30 3 W
  rw [List.length_map] at ls
  rw [bv_length] at lh
  by_cases c0 : m < 1
  · have t0 : decide (m < 1) = true := by rw [decide_eq_true_eq]; omega
    clear c0
    go_enter Tryd.func20, Tryd.ntmps20
    go_wp2_with (fail)
    go_ret2
    exact dec_bad w m shards hv hz _ (Below.refl _ _)
  · skip
    by_cases c1 : 8 < m
    · have t0 : decide (m < 1) = false := by rw [decide_eq_false_iff_not]; omega
      have t1 : decide (8 < m) = true := by rw [decide_eq_true_eq]; omega
      clear c0 c1
      go_enter Tryd.func20, Tryd.ntmps20
      go_wp2_with (fail)
      go_ret2
      exact dec_bad w m shards hv hz _ (Below.refl _ _)
    · skip
      by_cases c2 : (shards.length : Int) ≤ m
      · have t0 : decide (m < 1) = false := by rw [decide_eq_false_iff_not]; omega
        have t1 : decide (8 < m) = false := by rw [decide_eq_false_iff_not]; omega
        have t2 : decide ((shards.length : Int) ≤ m) = true := by rw [decide_eq_true_eq]; omega
        clear c0 c1 c2
        go_enter Tryd.func20, Tryd.ntmps20
        go_wp2_with (fail)
        go_ret2
        exact dec_bad w m shards hv hz _ (Below.refl _ _)
      · skip
        by_cases c3 : m + 8 < (shards.length : Int)
        · have t0 : decide (m < 1) = false := by rw [decide_eq_false_iff_not]; omega
          have t1 : decide (8 < m) = false := by rw [decide_eq_false_iff_not]; omega
          have t2 : decide ((shards.length : Int) ≤ m) = false := by rw [decide_eq_false_iff_not]; omega
          have t3 : decide (m + 8 < (shards.length : Int)) = true := by rw [decide_eq_true_eq]; omega
          clear c3
          go_enter Tryd.func20, Tryd.ntmps20
          go_wp2_with (fail)
          go_ret2
          exact dec_bad w m shards hv hz _ (Below.refl _ _)
        · skip
          have t0 : decide (m < 1) = false := by rw [decide_eq_false_iff_not]; omega
          have t1 : decide (8 < m) = false := by rw [decide_eq_false_iff_not]; omega
          have t2 : decide ((shards.length : Int) ≤ m) = false := by rw [decide_eq_false_iff_not]; omega
          have t3 : decide (m + 8 < (shards.length : Int)) = false := by rw [decide_eq_false_iff_not]; omega
          have e3 : (((hv.length : Nat) : Int) != ((shards.length : Nat) : Int)) = true := by
            have h := h'.out
            rw [decB, (fits8_iff m).2 (by omega), (fits8_iff ((shards.length : Int) - m)).2 (by omega)] at h
            simp at h
            rw [bne_iff_ne]; omega
          go_enter Tryd.func20, Tryd.ntmps20
          go_wp2_with (fail)
          go_ret2
          exact dec_bad w m shards hv hz _ (Below.refl _ _)
theorem idxTo_chL (hv : List Bool) (rows : List ByteArray) (q : Nat) : chL (idxTo hv (q + 1)) rows = if hv.getD q false then chL (idxTo hv q) rows ++ [rows.getD q ⟨#[]⟩] else chL (idxTo hv q) rows := by
  rw [idxTo_succ]
  split
  · simp [chL]
  · rfl
theorem chL_take (r : List Nat) (rows : List ByteArray) (k : Nat) : tx (chL (r.take k) rows) = (tx (chL r rows)).take k := by simp [chL, tx]
set_option maxRecDepth 100000 in
set_option maxHeartbeats 4000000 in
theorem rdecode_right (M : Nat) (vs vh : Value) (shards : List ByteArray) (hv : List Bool) (w : World) (hS : Reads w vs (tx shards)) (hH : Reads w vh (bv hv)) (fs : Fits shards) (h : decB (M : Int) shards hv = true) :
    Calls Tryd.prog 20 #[.int .i64 (M : Int), vs, vh] w (GivesL w (decL (M : Int) shards hv) (decE (M : Int) shards hv)) := by
  obtain ⟨i0, hi, hz0, hz1, hz2⟩ := info_parts Tryd.infoS
  obtain ⟨f1, f2, f3, f4, f5, f6⟩ := decB_facts h
  rw [show ((M : Int)).toNat = M by omega] at f6
  have ls := fun W => hS.len_run (P := Tryd.prog) Tryd.underlying22 3 W
  have lh := fun W => hH.len_run (P := Tryd.prog) Tryd.underlying30 3 W
  rw [List.length_map] at ls
  rw [bv_length, f5] at lh
  have hidx := idxL_lt hv
  have hlen : (idxL hv).length ≤ hv.length := idxTo_len hv hv.length
  have hO : decO (M : Int) shards hv = alikeL (chL (idxL hv) shards) := by rw [decO, h]; rfl
  obtain ⟨k, hk⟩ : ∃ k, decK (M : Int) shards = k := ⟨_, rfl⟩
  rw [hk] at f3 f4 f6
  have hK : (shards.length : Int) - (M : Int) = (k : Int) := by omega
  have hz : Hid (decO (M : Int) shards hv = alikeL (chL (idxL hv) shards)) := Lib.hid hO
  have hLz : Hid (alikeL (chL (idxL hv) shards) = true → k ≤ (idxL hv).length → decL (M : Int) shards hv = mulL (invL (chL ((idxL hv).take k) (genL k M))) (chL ((idxL hv).take k) shards) ∧ Fits (chL ((idxL hv).take k) (genL k M)) ∧ Fits (invL (chL ((idxL hv).take k) (genL k M))) ∧ Fits (chL ((idxL hv).take k) shards)) := Lib.hid (fun ha hkl => by
    have hO2 : decO (M : Int) shards hv = true := by rw [hO]; exact ha
    obtain ⟨g1, g2, g3, L, g4, g5, g6⟩ := dec_rect hO2 (by omega)
    have hI : decI (M : Int) shards hv = (idxL hv).take k := by rw [decI, hk]
    rw [hI, hk] at g1 g6
    rw [hI] at g2 g3
    rw [hk, show ((M : Int)).toNat = M by omega] at g3
    have hG := chL_rect (genL_rect k M) g3 g1
    have e0 := gen_inv (m := M) (by omega) (by omega) (by omega) g1 g2 g3
    rcases inv_cases hG (by omega) (by omega) with ⟨_, rI, _⟩ | ⟨e, _⟩
    · refine ⟨?_, hG.fits (by omega) (by omega), rI.fits (by omega) (by omega), g6.fits (by omega) (by omega)⟩
      rw [decL, hO2, hI, hk, show ((M : Int)).toNat = M by omega, decide_eq_true (show k ≤ (idxL hv).length from hkl)]; rfl
    · rw [e0] at e; cases e)
  have hEz : Hid (decE (M : Int) shards hv = if alikeL (chL (idxL hv) shards) then (if k ≤ (idxL hv).length then 0 else 31) else 30) := Lib.hid (by rw [decE, hO, hk])
  have hLf : Hid (alikeL (chL (idxL hv) shards) = true → ¬ k ≤ (idxL hv).length → decL (M : Int) shards hv = []) := Lib.hid (fun ha hkl => by
    rw [decL, hO, ha, hk, decide_eq_false hkl]; rfl)
  have fch : Hid (Fits (chL (idxL hv) shards)) := Lib.hid ⟨by rw [chL_length]; omega, fun i hi => by
    rw [chL_length] at hi
    rw [chL_get _ _ hi]
    exact fs.m _ (by have := getD_lt hidx hi; omega)⟩
  obtain ⟨n, hn⟩ : ∃ n, shards.length = n := ⟨_, rfl⟩
  have hhn : hv.length = n := by omega
  have hM8 : M ≤ 8 := by omega
  have hM1 : 1 ≤ M := by omega
  have hs16 : n ≤ 16 := by omega
  obtain ⟨hid1, hid2⟩ := idL_nat f3 (show k ≤ 16 by omega)
  have ci := fun W => ridentity_any (k : Int) W (by omega)
  rw [hid1, hid2] at ci
  obtain ⟨y1, y2⟩ := cy_nat (k := k) (m := M) (by omega) (by omega) (by omega) (by omega)
  have cc := fun W => rcauchy_any (k : Int) (M : Int) W
  rw [y1, y2] at cc
  have lw : (genL k M).length = n := by rw [genL_length]; omega
  have hall : idxL hv = idxTo hv n := by rw [idxL, hhn]
  have hG0 : mkM idEl k k ++ mkM (cyEl M) M k = genL k M := rfl
  have la := mkM_length idEl k k
  have lb := mkM_length (cyEl M) M k
  have hlab : (mkM idEl k k).length + (mkM (cyEl M) M k).length ≤ 100 := by omega
  have t0 : decide ((M : Int) < 1) = false := by rw [decide_eq_false_iff_not]; omega
  have t1 : decide (8 < (M : Int)) = false := by rw [decide_eq_false_iff_not]; omega
  have t2 : decide ((n : Int) ≤ (M : Int)) = false := by rw [decide_eq_false_iff_not]; omega
  have t2' : decide (n ≤ M) = false := by rw [decide_eq_false_iff_not]; omega
  have t3 : decide ((M : Int) + 8 < (n : Int)) = false := by rw [decide_eq_false_iff_not]; omega
  have t3' : decide (M + 8 < n) = false := by rw [decide_eq_false_iff_not]; omega
  have hnH := Lib.hid hn
  have hhnH := Lib.hid hhn
  have hallH := Lib.hid hall
  have lwH := Lib.hid lw
  have hlabH := Lib.hid hlab
  rw [hn] at ls lh hK
  have hG0' := Lib.hid hG0
  generalize mkM idEl k k = ma at *
  generalize mkM (cyEl M) M k = mb at *
  generalize genL k M = G at *
  clear h hO hk hidx hlen f1 f2 f5 f6 hn hhn hall lw hG0 la lb hlab hid1 hid2 y1 y2
  go_enter Tryd.func20, Tryd.ntmps20
  go_wp2_with (fail)
  refine (ci _).mono ?_
  rintro e w1 ⟨v1, rfl, o1, b1⟩
  go_wp2_with (fail)
  refine (cc _).mono ?_
  rintro e w2 ⟨v2, rfl, o2, b2⟩
  obtain ⟨x1, wa, x2, w3, ha1, ha2, oW, bW⟩ := word_run (o1.reads.below b2) o2.reads (by have := hlabH.out; omega)
  rw [hG0'.out] at oW
  go_wp2_with (first | (at_builtin; refine wpList_append_run ha1 _ _ rfl rfl rfl rfl rfl ?_) | (at_builtin; refine wpList_append_run ha2 _ _ rfl rfl rfl rfl rfl ?_))
  have B3 : Below w.heap.size w w3 := below_c (below_c b1 b2) bW
  have S3 := hS.below B3
  have H3 := hH.below B3
  have W3 := oW.reads
  go_loopw [14, 15, 16] (fun u v i wr => ∃ q : Nat, q ≤ n ∧ i = .int .i64 (q : Int) ∧ Own wr w3.heap.size 9 u (tx (chL (idxTo hv q) shards)) ∧ Own wr w3.heap.size 9 v (tx (chL (idxTo hv q) G)) ∧ Apart u v ∧ Below w3.heap.size w3 wr) (fun _ _ i _ => n - (intOf i).toNat)
  case atStart => exact ⟨0, by omega, rfl, Own.nil _ _ _, Own.nil _ _ _, Apart.nil _, Below.refl _ _⟩
  case round =>
    obtain ⟨q, hq, rfl, p1, p2, ap, hbel⟩ := hrel
    obtain ⟨u, rfl⟩ : ∃ v, v = u14 := ⟨_, rfl⟩
    obtain ⟨v, rfl⟩ : ∃ v, v = u15 := ⟨_, rfl⟩
    have hle := idxTo_len hv q
    by_cases hlt : q < n
    · have b1 : (q : Int) < (n : Int) := by omega
      rcases H3.below hbel with ⟨_, e⟩ | ⟨b, off, cap, rfl, hb, hc⟩
      · have := congrArg List.length e; rw [bv_length, List.length_nil, hhnH.out] at this; omega
      have hck := hc q (by rw [bv_length, hhnH.out]; exact hlt)
      rw [bv_getD hv (by rw [hhnH.out]; exact hlt)] at hck
      have b2 : (q : Int) < ((bv hv).length : Int) := by rw [bv_length, hhnH.out]; exact b1
      have hs1 := idxTo_chL hv shards q
      have hs2 := idxTo_chL hv G q
      cases hb1 : hv.getD q false with
      | true =>
        rw [hb1] at hs1 hs2 hck
        rw [if_pos rfl] at hs1 hs2
        have h1' := Lib.hid hs1
        have h2' := Lib.hid hs2
        have hz := hbel.size
        obtain ⟨vA, wA, hapA, oA, bA, kA, cA⟩ := Own.pushA (P := Tryd.prog) (T := 22) Tryd.underlying22 hi hz0 hz1 hz2 rfl p1 (.string (shards.getD q ⟨#[]⟩)) rfl hz (by rw [List.length_map, chL_length]; omega) (by rw [List.length_map, chL_length]; omega)
        have p2a := p2.kept kA ap.symm
        have apA := (ap.symm.push p2 cA).symm
        have hzA := bA.size
        obtain ⟨vB, wB, hapB, oB, bB, kB, cB⟩ := Own.pushA (P := Tryd.prog) (T := 22) Tryd.underlying22 hi hz0 hz1 hz2 rfl p2a (.string (G.getD q ⟨#[]⟩)) rfl (by omega) (by rw [List.length_map, chL_length]; omega) (by rw [List.length_map, chL_length]; omega)
        have oA' := oA.kept kB apA
        have apB := apA.push oA cB
        rcases S3.srow with ⟨_, e⟩ | ⟨bs, os, caps, rfl, hSs⟩
        · have := hnH.out; rw [e] at this; simp at this; omega
        rcases W3.srow with ⟨_, e⟩ | ⟨bg, og, capg, rfl, hSg⟩
        · have := lwH.out; rw [e] at this; simp at this; omega
        have d1 := (hSs.below hbel).cell q (by rw [hnH.out]; exact hlt)
        have d2 := (hSg.below (hbel.trans bA)).cell q (by rw [lwH.out]; exact hlt)
        have l1 : (q : Int) < (shards.length : Int) := by rw [hnH.out]; exact b1
        have l2 : (q : Int) < (G.length : Int) := by rw [lwH.out]; exact b1
        clear hb1 hs1 hs2 hc kA kB cA cB
        generalize shards.getD q ⟨#[]⟩ = sq at *
        generalize G.getD q ⟨#[]⟩ = gq at *
        go_wp2_with (first | (at_builtin; refine wpList_append_run hapA _ _ rfl rfl rfl rfl rfl ?_) | (at_builtin; refine wpList_append_run hapB _ _ rfl rfl rfl rfl rfl ?_))
        go_roundw
        case rel => exact ⟨q + 1, by omega, by go_num, by rw [h1'.out, tx_app]; exact oA', by rw [h2'.out, tx_app]; exact oB, apB, (hbel.trans bA).trans bB⟩
        case measure => simp [intOf]; omega
      | false =>
        rw [hb1] at hs1 hs2 hck
        rw [if_neg (by decide)] at hs1 hs2
        have h1' := Lib.hid hs1
        have h2' := Lib.hid hs2
        clear hb1 hs1 hs2 hc
        go_wp2_with (fail)
        go_roundw
        case rel => exact ⟨q + 1, by omega, by go_num, by rw [h1'.out]; exact p1, by rw [h2'.out]; exact p2, ap, hbel⟩
        case measure => simp [intOf]; omega
    · have e : q = n := by omega
      subst e
      rw [← hallH.out] at p1 p2 hle
      generalize idxL hv = r at *
      have hal := fun W (hW : Below wr.heap.size wr W) => rshards_any u (chL r shards) W (p1.reads.below hW) fch.out
      have l1 := fun W => p1.reads.len_run (P := Tryd.prog) Tryd.underlying22 3 W
      rw [List.length_map, chL_length] at l1
      have Br : Below w.heap.size w wr := below_c B3 hbel
      cases ha : alikeL (chL r shards) with
      | false =>
        rw [ha] at hal
        have hzz := hz.out
        rw [ha] at hzz
        have hz' := Lib.hid hzz
        clear hzz ha hEz hLz hLf hz
        go_wp2_with (fail)
        refine (hal _ (Below.refl _ _)).mono ?_
        rintro e w4 ⟨rfl, b4⟩
        go_wp2_with (fail)
        go_ret2
        exact dec_bad w (M : Int) shards hv hz' _ (below_c Br b4)
      | true =>
        rw [ha] at hal
        have hE2 := hEz.out
        rw [ha, if_pos rfl] at hE2
        by_cases hkl : k ≤ r.length
        · obtain ⟨q1, q4, q5, q6⟩ := hLz.out ha hkl
          rw [if_pos hkl] at hE2
          have hE3 := Lib.hid hE2
          have hL3 := Lib.hid q1
          have e1 : decide (r.length < k) = false := by rw [decide_eq_false_iff_not]; omega
          have e1' : decide ((r.length : Int) < (k : Int)) = false := by rw [decide_eq_false_iff_not]; omega
          obtain ⟨vr2, slr, rr2⟩ := p2.reads.to_run (P := Tryd.prog) Tryd.underlying22 hi hz1 p2.capOk (m := k) (by rw [List.length_map, chL_length]; omega)
          obtain ⟨vc2, slc, rc2⟩ := p1.reads.to_run (P := Tryd.prog) Tryd.underlying22 hi hz1 p1.capOk (m := k) (by rw [List.length_map, chL_length]; omega)
          rw [← chL_take] at rr2 rc2
          have hinv := fun W v hv => rinverse_any v (chL (r.take k) G) W hv q4
          have hmul := fun W va vb ha hb => rmxmul_any va vb (invL (chL (r.take k) G)) (chL (r.take k) shards) W ha hb q5 q6
          rw [← q1] at hmul
          clear hE2 q1 hLz hLf hEz hz ha
          go_wp2_with (fail)
          refine (hal _ (Below.refl _ _)).mono ?_
          rintro e w4 ⟨rfl, b4⟩
          go_wp2_with (fail)
          refine (hinv _ _ (rr2.below b4)).mono ?_
          rintro e w5 ⟨v5, rfl, o5, b5⟩
          go_wp2_with (fail)
          refine (hmul _ _ _ o5.reads (rc2.below (below_c b4 b5))).mono ?_
          rintro e w6 ⟨v6, rfl, o6, b6⟩
          have Bf := below_c (below_c (below_c Br b4) b5) b6
          go_wp2_with (fail)
          go_ret2
          exact ⟨v6, by rw [hE3.out]; rfl, o6.mono (below_c (below_c Br b4) b5).size, Bf⟩
        · have e1 : decide (r.length < k) = true := by rw [decide_eq_true_eq]; omega
          have e1' : decide ((r.length : Int) < (k : Int)) = true := by rw [decide_eq_true_eq]; omega
          rw [if_neg hkl] at hE2
          have hE3 := Lib.hid hE2
          have hL3 := Lib.hid (hLf.out ha hkl)
          clear hE2 hLz hLf hEz hz ha hkl
          go_wp2_with (fail)
          refine (hal _ (Below.refl _ _)).mono ?_
          rintro e w4 ⟨rfl, b4⟩
          go_wp2_with (fail)
          go_ret2
          exact ⟨.slice none 0 0, by rw [hE3.out]; rfl, by rw [hL3.out]; exact Own.nil _ _ _, below_c Br b4⟩
theorem rdecode_any (m : Int) (vs vh : Value) (shards : List ByteArray) (hv : List Bool) (w : World) (hS : Reads w vs (tx shards)) (hH : Reads w vh (bv hv)) (fs : Fits shards) (hn : shards.length ≤ 1000000) (hh : hv.length ≤ 140737488355328) (m1 : -9223372036854775808 ≤ m) (m2 : m ≤ 9223372036854775807) :
    Calls Tryd.prog 20 #[.int .i64 m, vs, vh] w (GivesL w (decL m shards hv) (decE m shards hv)) := by
  by_cases h : decB m shards hv = true
  · obtain ⟨f1, _⟩ := decB_facts h
    obtain ⟨M, rfl⟩ := Int.eq_ofNat_of_zero_le (show 0 ≤ m by omega)
    exact rdecode_right M vs vh shards hv w hS hH fs h
  · exact rdecode_form m vs vh shards hv w hS hH hn hh m1 m2 (by simpa using h)
end Go.Proofs.YtcmnojflllcdfaaDoor
