/- pack's laws: what is laid is read back. -/
import Derived.Test.YtkjpdpjogcifoaaDoorPackItems
import Derived.Deep.RegionHeld3
namespace Go.Proofs.YtkjpdpjogcifoaaDoor
open Go.RowKit
set_option linter.unusedVariables false
set_option linter.unusedSimpArgs false

theorem tests_of (q n : Nat) (h : ¬ q < n) : decide (q < n) = false := by rw [decide_eq_false_iff_not]; exact h
set_option maxRecDepth 100000 in
set_option maxHeartbeats 40000000 in
theorem pback_walk (vn : Value) (nums : List Int) (vtx : Value) (texts : List ByteArray) (vws : Value) (widths : List Int) (more : Int) (w : World)
    (Rn : Reads w vn (nums.map (.int .i64))) (Rt : Reads w vtx (texts.map .string)) (Rw : Reads w vws (widths.map (.int .i64))) (rm : -9223372036854775808 ≤ more ∧ more ≤ 9223372036854775807)
    (hn : ∀ i, i < nums.length → -9223372036854775808 ≤ nums.getD i 0 ∧ nums.getD i 0 ≤ 9223372036854775807) (hw : ∀ i, i < widths.length → -9223372036854775808 ≤ widths.getD i 0 ∧ widths.getD i 0 ≤ 9223372036854775807)
    (ht : ∀ i (hi : i < texts.length), texts[i].size ≤ 140737488351232) (ln : nums.length ≤ 140737488355328) (lt : texts.length ≤ 140737488355328) (lw : widths.length ≤ 140737488355328) :
    Calls Tryd.prog 5 #[vn, vtx, vws, .int .i64 more] w fun e w' => e = .returned (.bool true) ∧ Below w.heap.size w w' := by
  obtain ⟨ii, hi, hz0, hz1, hz2⟩ := info_parts Tryd.infoI
  obtain ⟨is, gi, gz0, gz1, gz2⟩ := info_parts Tryd.infoS
  obtain ⟨an, cn, rfl, celln⟩ := Rn.ints
  obtain ⟨aw, cw, rfl, cellw⟩ := Rw.ints
  obtain ⟨at_, ct, rfl, cellt⟩ := Rt.vals
  obtain ⟨z, hz, _, kz⟩ := pick_nat more 50 rm.1 rm.2 (by decide) (by decide)
  clear Rn Rw Rt
  go_enter Tryd.func5, Tryd.ntmps5
  go_wp2_with (fail)
  refine (pawake_any _).mono ?_
  rintro e w1 ⟨rfl, b1⟩
  have hz1' := b1.size
  obtain ⟨B, hB0⟩ : ∃ B, w1.heap.size = B := ⟨_, rfl⟩
  go_wp2_with (fail)
  go_loopw [10, 11, 12, 13, 14] (fun sv xv wv tv i wr => ∃ (q : Nat) (L : List (Nat × Nat × ByteArray)), q ≤ nums.length ∧ q ≤ 40 ∧ L.length = q ∧ (∀ x ∈ L, GoodI x) ∧ sv = .string (lineOf (flat L)) ∧ i = .int .i64 (q : Int) ∧ Own wr B 3 xv (vx L) ∧ Own wr B 3 wv (vw L) ∧ Own wr B 9 tv (vt L) ∧ Apart xv wv ∧ Apart xv tv ∧ Apart wv tv ∧ Below B w1 wr) (fun _ _ _ _ i _ => nums.length - (intOf i).toNat)
  case atStart => exact ⟨0, [], by omega, by omega, rfl, (fun x hx => by cases hx), rfl, rfl, Own.nil _ _ _, Own.nil _ _ _, Own.nil _ _ _, Apart.nil _, Apart.nil _, Apart.nil _, Below.refl _ _⟩
  case round =>
    obtain ⟨q, L, hq, hq40, hLq, hgood, rfl, rfl, ox, ow, ot, a1, a2, a3, hB⟩ := hrel
    obtain ⟨xv, rfl⟩ : ∃ v, v = u11 := ⟨_, rfl⟩
    obtain ⟨wv, rfl⟩ : ∃ v, v = u12 := ⟨_, rfl⟩
    obtain ⟨tv, rfl⟩ : ∃ v, v = u13 := ⟨_, rfl⟩
    have hsz := hB.size
    by_cases hlt : q < nums.length ∧ q < 40
    · obtain ⟨hl1, hl2⟩ := hlt
      have t1 : (q : Int) < (nums.length : Int) := by omega
      have t2 : (q : Int) < 40 := by omega
      obtain ⟨nb, no, rfl, hnb, hnc⟩ := celln q hl1
      have hcn : ∀ W, Below B w1 W → W.cell? ⟨nb, no + q, none⟩ = some (.int .i64 (nums.getD q 0)) := fun W hW => by
        rw [hW.cell (p := ⟨nb, no + q, none⟩) (by show nb < B; omega), b1.cell (p := ⟨nb, no + q, none⟩) hnb]; exact hnc
      have hnr := hn q hl1
      have dn := hcn wr hB
      have dn2 : wr.drew.cell? ⟨nb, no + q, none⟩ = some (.int .i64 (nums.getD q 0)) := dn
      obtain ⟨p0, hp0, _, k0⟩ := pick_nat (q : Int) 7 (by omega) (by omega) (by decide) (by decide)
      have hp0' : (p0 : Int) ≤ 6 := by omega
      clear hnc
      generalize nums.getD q 0 = num at *
      by_cases hwi : q < widths.length
      · by_cases hti : q < texts.length
        · skip
          obtain ⟨wb, wo, rfl, hwb, hwc⟩ := cellw q hwi
          have dw : wr.cell? ⟨wb, wo + q, none⟩ = some (.int .i64 (widths.getD q 0)) := by
            rw [hB.cell (p := ⟨wb, wo + q, none⟩) (by show wb < B; omega), b1.cell (p := ⟨wb, wo + q, none⟩) hwb]; exact hwc
          have hwr := hw q hwi
          have t3 : (q : Int) < (widths.length : Int) := by omega
          clear hwc
          generalize widths.getD q 0 = wd at *
          obtain ⟨p1, hp1, _, k1⟩ := pick_nat wd 7 hwr.1 hwr.2 (by decide) (by decide)
          obtain ⟨W, hW⟩ : ∃ W, W = 1 + p1 := ⟨_, rfl⟩
          have hW1 : 1 + (p1 : Int) = (W : Int) := by omega
          have w1' : 1 ≤ W := by omega
          have w7 : W ≤ 7 := by omega
          have w7' : (W : Int) ≤ 7 := by omega
          obtain ⟨pw1, pw2⟩ := pow_wrap w1' w7
          have hpos : 1 ≤ 256 ^ W := Nat.pow_pos (by decide)
          obtain ⟨N, hN, _, kN⟩ := pick_nat num ((256 ^ W : Nat) : Int) hnr.1 hnr.2 (by omega) (by omega)
          have hNlt : N < 256 ^ W := by omega
          have cN := fun W' => num_right N W W' w1' w7 hNlt
          obtain ⟨tb, to_, rfl, htb, htc⟩ := cellt q hti
          have dt : wr.cell? ⟨tb, to_ + q, none⟩ = some (.string texts[q]) := by
            rw [hB.cell (p := ⟨tb, to_ + q, none⟩) (by show tb < B; omega), b1.cell (p := ⟨tb, to_ + q, none⟩) htb]; exact htc
          have dt2 : wr.drew.cell? ⟨tb, to_ + q, none⟩ = some (.string texts[q]) := dt
          have htr := ht q hti
          have t4 : (q : Int) < (texts.length : Int) := by omega
          clear htc
          generalize texts[q] = T0 at *
          obtain ⟨n, hn0⟩ : ∃ n : Nat, n = min T0.size 20 := ⟨_, rfl⟩
          have hmin : min (T0.size : Int) 20 = (n : Int) := by omega
          have hcut := fun W => to_run (P := Tryd.prog) (T := 9) Tryd.underlying9 T0 n (by omega) W
          have hT20 : (T0.extract 0 n).size ≤ 20 := by rw [ByteArray.size_extract]; omega
          have hn20 : (n : Int) ≤ (T0.size : Int) := by omega
          clear hn0
          generalize T0.extract 0 n = T at *
          have hg1 : ∀ y ∈ L ++ [(N, W, T)], GoodI y := good_snoc hgood ⟨w1', w7, hNlt, hT20⟩
          have hfl := flat_len L hgood
          have hS : (lineOf (flat L)).size ≤ 1080 := by rw [lineOf_size]; omega
          have hPs : (lineOf (Pk.be W N)).size = W := by rw [lineOf_size, Pk.be_length]
          have e5 : ((((lineOf (Pk.be W N)).size : Nat) : Int) != (W : Int)) = false := by rw [hPs]; exact bne_self_eq_false _
          have hP7 : (lineOf (Pk.be W N)).size ≤ 7 := by omega
          have hSP : (lineOf (flat L) ++ lineOf (Pk.be W N)).size ≤ 1087 := by rw [ByteArray.size_append]; omega
          have hnew : Hid (lineOf (flat L) ++ lineOf (Pk.be W N) ++ T = lineOf (flat (L ++ [(N, W, T)]))) := Lib.hid (by
            rw [flat_snoc, show T = lineOf T.data.toList from rfl, line_append, line_append, list_lineOf, list_lineOf]; simp only [chunk, List.append_assoc]; rfl)
          obtain ⟨PP, hPP⟩ : ∃ P : Int, ((256 ^ W : Nat) : Int) = P := ⟨_, rfl⟩
          rw [hPP] at pw1 kN
          have e11 : Hid (IntKind.i64.wrap ((2 : Int) ^ (8 * W)) = PP) := Lib.hid ((IntWalk.i64_left _).trans pw1)
          clear pw1
          have hL1 : (L ++ [(N, W, T)]).length = q + 1 := by simp [hLq]
          have ex : Hid (vx (L ++ [(N, W, T)]) = vx L ++ [.int .i64 (N : Int)]) := Lib.hid (by simp [vx])
          have ew : Hid (vw (L ++ [(N, W, T)]) = vw L ++ [.int .i64 (W : Int)]) := Lib.hid (by simp [vw])
          have et : Hid (vt (L ++ [(N, W, T)]) = vt L ++ [.string T]) := Lib.hid (by simp [vt])
          have lx : (vx L).length = q := by simp [vx, hLq]
          have lw' : (vw L).length = q := by simp [vw, hLq]
          have lt' : (vt L).length = q := by simp [vt, hLq]
          have hgH := Lib.hid hg1
          have hlH := Lib.hid hL1
          have lxH := Lib.hid lx
          have lwH := Lib.hid lw'
          have ltH := Lib.hid lt'
          clear hfl hPs hW hPP hL1 hg1 lx lw' lt' hLq pw2 hpos hN hNlt hgood
          generalize lineOf (Pk.be W N) = pb at *
          generalize lineOf (flat L) = S at *
          go_wp2_with (fail)
          refine (k0 _).mono ?_
          rintro e wq ⟨rfl, rfl⟩
          go_wp2_with (fail)
          refine (k1 _).mono ?_
          rintro e wq ⟨rfl, rfl⟩
          go_wp2_with (fail)
          have e8 : IntKind.i64.wrap (8 * (W : Int)) = 8 * (W : Int) := IntWalk.i64_in _ ⟨by omega, by omega⟩
          have e9 : (0 : Int) ≤ 8 * (W : Int) := by omega
          have e10 : (8 * (W : Int)).toNat = 8 * W := by omega
          go_region_with (go_at_call 26; rw [e11.out]; refine (kN _).mono ?_; rintro e w' ⟨rfl, rfl⟩)
          all_goals
            go_wp2_with (fail)
            go_quiet (fail)
            go_wp2_with (fail)
            refine (cN _).mono ?_
            rintro e w5 ⟨rfl, b5⟩
            have b5' : Below wr.heap.size wr w5 := ⟨b5.os, b5.tape, b5.output, b5.size, b5.block⟩
            clear b5
            have ox5 := ox.after b5'
            have ow5 := ow.after b5'
            have ot5 := ot.after b5'
            have hB5 : Below B w1 w5 := hB.trans (b5'.mono (by omega))
            have hz5 := hB5.size
            obtain ⟨v1, w6, hap1, p1', q1, r1, s1⟩ := Own.pushA (P := Tryd.prog) (T := 39) Tryd.underlying39 hi hz0 hz1 hz2 rfl ox5 (.int .i64 (N : Int)) rfl (by omega) (by rw [lxH.out]; omega) (by rw [lxH.out]; omega)
            have ow6 := ow5.kept r1 a1.symm
            have ot6 := ot5.kept r1 a2.symm
            have a1' := (a1.symm.push ow5 s1).symm
            have a2' := (a2.symm.push ot5 s1).symm
            have hz6 := q1.size
            obtain ⟨v2, w7_, hap2, p2, q2, r2, s2⟩ := Own.pushA (P := Tryd.prog) (T := 39) Tryd.underlying39 hi hz0 hz1 hz2 rfl ow6 (.int .i64 (W : Int)) rfl (by omega) (by rw [lwH.out]; omega) (by rw [lwH.out]; omega)
            have ox7 := p1'.kept r2 a1'
            have ot7 := ot6.kept r2 a3.symm
            have a1'' := a1'.push p1' s2
            have a3' := (a3.symm.push ot6 s2).symm
            have hz7 := q2.size
            obtain ⟨v3, w8, hap3, p3, q3, r3, s3⟩ := Own.pushA (P := Tryd.prog) (T := 40) Tryd.underlying40 gi gz0 gz1 gz2 rfl ot7 (.string T) rfl (by omega) (by rw [ltH.out]; omega) (by rw [ltH.out]; omega)
            have ox8 := ox7.kept r3 a2'
            have ow8 := p2.kept r3 a3'
            have a2'' := a2'.push ox7 s3
            have a3'' := a3'.push p2 s3
            clear s1 s2 s3 r1 r2 r3
            go_wp2_with (first | (at_builtin; refine wpList_append_run hap1 _ _ rfl rfl rfl rfl rfl ?_) | (at_builtin; refine wpList_append_run hap2 _ _ rfl rfl rfl rfl rfl ?_) | (at_builtin; refine wpList_append_run hap3 _ _ rfl rfl rfl rfl rfl ?_))
            go_roundw
            case rel => exact ⟨q + 1, L ++ [(N, W, T)], by omega, by omega, hlH.out, hgH.out, by rw [hnew.out], by go_num, by rw [ex.out]; exact ox8, by rw [ew.out]; exact ow8, by rw [et.out]; exact p3, a1'', a2'', a3'', ((hB5.trans q1).trans q2).trans q3⟩
            case measure => simp [intOf]; omega
        · skip
          obtain ⟨wb, wo, rfl, hwb, hwc⟩ := cellw q hwi
          have dw : wr.cell? ⟨wb, wo + q, none⟩ = some (.int .i64 (widths.getD q 0)) := by
            rw [hB.cell (p := ⟨wb, wo + q, none⟩) (by show wb < B; omega), b1.cell (p := ⟨wb, wo + q, none⟩) hwb]; exact hwc
          have hwr := hw q hwi
          have t3 : (q : Int) < (widths.length : Int) := by omega
          clear hwc
          generalize widths.getD q 0 = wd at *
          obtain ⟨p1, hp1, _, k1⟩ := pick_nat wd 7 hwr.1 hwr.2 (by decide) (by decide)
          obtain ⟨W, hW⟩ : ∃ W, W = 1 + p1 := ⟨_, rfl⟩
          have hW1 : 1 + (p1 : Int) = (W : Int) := by omega
          have w1' : 1 ≤ W := by omega
          have w7 : W ≤ 7 := by omega
          have w7' : (W : Int) ≤ 7 := by omega
          obtain ⟨pw1, pw2⟩ := pow_wrap w1' w7
          have hpos : 1 ≤ 256 ^ W := Nat.pow_pos (by decide)
          obtain ⟨N, hN, _, kN⟩ := pick_nat num ((256 ^ W : Nat) : Int) hnr.1 hnr.2 (by omega) (by omega)
          have hNlt : N < 256 ^ W := by omega
          have cN := fun W' => num_right N W W' w1' w7 hNlt
          have t4 : decide (q < texts.length) = false := tests_of _ _ hti
          obtain ⟨T, hT⟩ : ∃ T : ByteArray, T = ⟨#[]⟩ := ⟨_, rfl⟩
          have hT20 : T.size ≤ 20 := by rw [hT]; exact Nat.zero_le _
          have hg1 : ∀ y ∈ L ++ [(N, W, T)], GoodI y := good_snoc hgood ⟨w1', w7, hNlt, hT20⟩
          have hfl := flat_len L hgood
          have hS : (lineOf (flat L)).size ≤ 1080 := by rw [lineOf_size]; omega
          have hPs : (lineOf (Pk.be W N)).size = W := by rw [lineOf_size, Pk.be_length]
          have e5 : ((((lineOf (Pk.be W N)).size : Nat) : Int) != (W : Int)) = false := by rw [hPs]; exact bne_self_eq_false _
          have hP7 : (lineOf (Pk.be W N)).size ≤ 7 := by omega
          have hSP : (lineOf (flat L) ++ lineOf (Pk.be W N)).size ≤ 1087 := by rw [ByteArray.size_append]; omega
          have hnew : Hid (lineOf (flat L) ++ lineOf (Pk.be W N) ++ T = lineOf (flat (L ++ [(N, W, T)]))) := Lib.hid (by
            rw [flat_snoc, show T = lineOf T.data.toList from rfl, line_append, line_append, list_lineOf, list_lineOf]; simp only [chunk, List.append_assoc]; rfl)
          obtain ⟨PP, hPP⟩ : ∃ P : Int, ((256 ^ W : Nat) : Int) = P := ⟨_, rfl⟩
          rw [hPP] at pw1 kN
          have e11 : Hid (IntKind.i64.wrap ((2 : Int) ^ (8 * W)) = PP) := Lib.hid ((IntWalk.i64_left _).trans pw1)
          clear pw1
          have hL1 : (L ++ [(N, W, T)]).length = q + 1 := by simp [hLq]
          have ex : Hid (vx (L ++ [(N, W, T)]) = vx L ++ [.int .i64 (N : Int)]) := Lib.hid (by simp [vx])
          have ew : Hid (vw (L ++ [(N, W, T)]) = vw L ++ [.int .i64 (W : Int)]) := Lib.hid (by simp [vw])
          have et : Hid (vt (L ++ [(N, W, T)]) = vt L ++ [.string T]) := Lib.hid (by simp [vt])
          have lx : (vx L).length = q := by simp [vx, hLq]
          have lw' : (vw L).length = q := by simp [vw, hLq]
          have lt' : (vt L).length = q := by simp [vt, hLq]
          have hgH := Lib.hid hg1
          have hlH := Lib.hid hL1
          have lxH := Lib.hid lx
          have lwH := Lib.hid lw'
          have ltH := Lib.hid lt'
          clear hfl hPs hW hPP hL1 hg1 lx lw' lt' hLq pw2 hpos hN hNlt hgood
          generalize lineOf (Pk.be W N) = pb at *
          generalize lineOf (flat L) = S at *
          subst hT
          go_wp2_with (fail)
          refine (k0 _).mono ?_
          rintro e wq ⟨rfl, rfl⟩
          go_wp2_with (fail)
          refine (k1 _).mono ?_
          rintro e wq ⟨rfl, rfl⟩
          go_wp2_with (fail)
          have e8 : IntKind.i64.wrap (8 * (W : Int)) = 8 * (W : Int) := IntWalk.i64_in _ ⟨by omega, by omega⟩
          have e9 : (0 : Int) ≤ 8 * (W : Int) := by omega
          have e10 : (8 * (W : Int)).toNat = 8 * W := by omega
          go_region_with (go_at_call 26; rw [e11.out]; refine (kN _).mono ?_; rintro e w' ⟨rfl, rfl⟩)
          all_goals
            go_wp2_with (fail)
            refine (cN _).mono ?_
            rintro e w5 ⟨rfl, b5⟩
            have b5' : Below wr.heap.size wr w5 := ⟨b5.os, b5.tape, b5.output, b5.size, b5.block⟩
            clear b5
            have ox5 := ox.after b5'
            have ow5 := ow.after b5'
            have ot5 := ot.after b5'
            have hB5 : Below B w1 w5 := hB.trans (b5'.mono (by omega))
            have hz5 := hB5.size
            obtain ⟨v1, w6, hap1, p1', q1, r1, s1⟩ := Own.pushA (P := Tryd.prog) (T := 39) Tryd.underlying39 hi hz0 hz1 hz2 rfl ox5 (.int .i64 (N : Int)) rfl (by omega) (by rw [lxH.out]; omega) (by rw [lxH.out]; omega)
            have ow6 := ow5.kept r1 a1.symm
            have ot6 := ot5.kept r1 a2.symm
            have a1' := (a1.symm.push ow5 s1).symm
            have a2' := (a2.symm.push ot5 s1).symm
            have hz6 := q1.size
            obtain ⟨v2, w7_, hap2, p2, q2, r2, s2⟩ := Own.pushA (P := Tryd.prog) (T := 39) Tryd.underlying39 hi hz0 hz1 hz2 rfl ow6 (.int .i64 (W : Int)) rfl (by omega) (by rw [lwH.out]; omega) (by rw [lwH.out]; omega)
            have ox7 := p1'.kept r2 a1'
            have ot7 := ot6.kept r2 a3.symm
            have a1'' := a1'.push p1' s2
            have a3' := (a3.symm.push ot6 s2).symm
            have hz7 := q2.size
            obtain ⟨v3, w8, hap3, p3, q3, r3, s3⟩ := Own.pushA (P := Tryd.prog) (T := 40) Tryd.underlying40 gi gz0 gz1 gz2 rfl ot7 (.string ⟨#[]⟩) rfl (by omega) (by rw [ltH.out]; omega) (by rw [ltH.out]; omega)
            have ox8 := ox7.kept r3 a2'
            have ow8 := p2.kept r3 a3'
            have a2'' := a2'.push ox7 s3
            have a3'' := a3'.push p2 s3
            clear s1 s2 s3 r1 r2 r3
            go_wp2_with (first | (at_builtin; refine wpList_append_run hap1 _ _ rfl rfl rfl rfl rfl ?_) | (at_builtin; refine wpList_append_run hap2 _ _ rfl rfl rfl rfl rfl ?_) | (at_builtin; refine wpList_append_run hap3 _ _ rfl rfl rfl rfl rfl ?_))
            go_roundw
            case rel => exact ⟨q + 1, L ++ [(N, W, ⟨#[]⟩)], by omega, by omega, hlH.out, hgH.out, by rw [hnew.out], by go_num, by rw [ex.out]; exact ox8, by rw [ew.out]; exact ow8, by rw [et.out]; exact p3, a1'', a2'', a3'', ((hB5.trans q1).trans q2).trans q3⟩
            case measure => simp [intOf]; omega
      · by_cases hti : q < texts.length
        · skip
          have t3 : decide (q < widths.length) = false := tests_of _ _ hwi
          obtain ⟨W, hW⟩ : ∃ W, W = 1 + p0 := ⟨_, rfl⟩
          have hW1 : 1 + (p0 : Int) = (W : Int) := by omega
          have w1' : 1 ≤ W := by omega
          have w7 : W ≤ 7 := by omega
          have w7' : (W : Int) ≤ 7 := by omega
          obtain ⟨pw1, pw2⟩ := pow_wrap w1' w7
          have hpos : 1 ≤ 256 ^ W := Nat.pow_pos (by decide)
          obtain ⟨N, hN, _, kN⟩ := pick_nat num ((256 ^ W : Nat) : Int) hnr.1 hnr.2 (by omega) (by omega)
          have hNlt : N < 256 ^ W := by omega
          have cN := fun W' => num_right N W W' w1' w7 hNlt
          obtain ⟨tb, to_, rfl, htb, htc⟩ := cellt q hti
          have dt : wr.cell? ⟨tb, to_ + q, none⟩ = some (.string texts[q]) := by
            rw [hB.cell (p := ⟨tb, to_ + q, none⟩) (by show tb < B; omega), b1.cell (p := ⟨tb, to_ + q, none⟩) htb]; exact htc
          have dt2 : wr.drew.cell? ⟨tb, to_ + q, none⟩ = some (.string texts[q]) := dt
          have htr := ht q hti
          have t4 : (q : Int) < (texts.length : Int) := by omega
          clear htc
          generalize texts[q] = T0 at *
          obtain ⟨n, hn0⟩ : ∃ n : Nat, n = min T0.size 20 := ⟨_, rfl⟩
          have hmin : min (T0.size : Int) 20 = (n : Int) := by omega
          have hcut := fun W => to_run (P := Tryd.prog) (T := 9) Tryd.underlying9 T0 n (by omega) W
          have hT20 : (T0.extract 0 n).size ≤ 20 := by rw [ByteArray.size_extract]; omega
          have hn20 : (n : Int) ≤ (T0.size : Int) := by omega
          clear hn0
          generalize T0.extract 0 n = T at *
          have hg1 : ∀ y ∈ L ++ [(N, W, T)], GoodI y := good_snoc hgood ⟨w1', w7, hNlt, hT20⟩
          have hfl := flat_len L hgood
          have hS : (lineOf (flat L)).size ≤ 1080 := by rw [lineOf_size]; omega
          have hPs : (lineOf (Pk.be W N)).size = W := by rw [lineOf_size, Pk.be_length]
          have e5 : ((((lineOf (Pk.be W N)).size : Nat) : Int) != (W : Int)) = false := by rw [hPs]; exact bne_self_eq_false _
          have hP7 : (lineOf (Pk.be W N)).size ≤ 7 := by omega
          have hSP : (lineOf (flat L) ++ lineOf (Pk.be W N)).size ≤ 1087 := by rw [ByteArray.size_append]; omega
          have hnew : Hid (lineOf (flat L) ++ lineOf (Pk.be W N) ++ T = lineOf (flat (L ++ [(N, W, T)]))) := Lib.hid (by
            rw [flat_snoc, show T = lineOf T.data.toList from rfl, line_append, line_append, list_lineOf, list_lineOf]; simp only [chunk, List.append_assoc]; rfl)
          obtain ⟨PP, hPP⟩ : ∃ P : Int, ((256 ^ W : Nat) : Int) = P := ⟨_, rfl⟩
          rw [hPP] at pw1 kN
          have e11 : Hid (IntKind.i64.wrap ((2 : Int) ^ (8 * W)) = PP) := Lib.hid ((IntWalk.i64_left _).trans pw1)
          clear pw1
          have hL1 : (L ++ [(N, W, T)]).length = q + 1 := by simp [hLq]
          have ex : Hid (vx (L ++ [(N, W, T)]) = vx L ++ [.int .i64 (N : Int)]) := Lib.hid (by simp [vx])
          have ew : Hid (vw (L ++ [(N, W, T)]) = vw L ++ [.int .i64 (W : Int)]) := Lib.hid (by simp [vw])
          have et : Hid (vt (L ++ [(N, W, T)]) = vt L ++ [.string T]) := Lib.hid (by simp [vt])
          have lx : (vx L).length = q := by simp [vx, hLq]
          have lw' : (vw L).length = q := by simp [vw, hLq]
          have lt' : (vt L).length = q := by simp [vt, hLq]
          have hgH := Lib.hid hg1
          have hlH := Lib.hid hL1
          have lxH := Lib.hid lx
          have lwH := Lib.hid lw'
          have ltH := Lib.hid lt'
          clear hfl hPs hW hPP hL1 hg1 lx lw' lt' hLq pw2 hpos hN hNlt hgood
          generalize lineOf (Pk.be W N) = pb at *
          generalize lineOf (flat L) = S at *
          go_wp2_with (fail)
          refine (k0 _).mono ?_
          rintro e wq ⟨rfl, rfl⟩
          go_wp2_with (fail)
          have e8 : IntKind.i64.wrap (8 * (W : Int)) = 8 * (W : Int) := IntWalk.i64_in _ ⟨by omega, by omega⟩
          have e9 : (0 : Int) ≤ 8 * (W : Int) := by omega
          have e10 : (8 * (W : Int)).toNat = 8 * W := by omega
          go_region_with (go_at_call 26; rw [e11.out]; refine (kN _).mono ?_; rintro e w' ⟨rfl, rfl⟩)
          all_goals
            go_wp2_with (fail)
            go_quiet (fail)
            go_wp2_with (fail)
            refine (cN _).mono ?_
            rintro e w5 ⟨rfl, b5⟩
            have b5' : Below wr.heap.size wr w5 := ⟨b5.os, b5.tape, b5.output, b5.size, b5.block⟩
            clear b5
            have ox5 := ox.after b5'
            have ow5 := ow.after b5'
            have ot5 := ot.after b5'
            have hB5 : Below B w1 w5 := hB.trans (b5'.mono (by omega))
            have hz5 := hB5.size
            obtain ⟨v1, w6, hap1, p1', q1, r1, s1⟩ := Own.pushA (P := Tryd.prog) (T := 39) Tryd.underlying39 hi hz0 hz1 hz2 rfl ox5 (.int .i64 (N : Int)) rfl (by omega) (by rw [lxH.out]; omega) (by rw [lxH.out]; omega)
            have ow6 := ow5.kept r1 a1.symm
            have ot6 := ot5.kept r1 a2.symm
            have a1' := (a1.symm.push ow5 s1).symm
            have a2' := (a2.symm.push ot5 s1).symm
            have hz6 := q1.size
            obtain ⟨v2, w7_, hap2, p2, q2, r2, s2⟩ := Own.pushA (P := Tryd.prog) (T := 39) Tryd.underlying39 hi hz0 hz1 hz2 rfl ow6 (.int .i64 (W : Int)) rfl (by omega) (by rw [lwH.out]; omega) (by rw [lwH.out]; omega)
            have ox7 := p1'.kept r2 a1'
            have ot7 := ot6.kept r2 a3.symm
            have a1'' := a1'.push p1' s2
            have a3' := (a3.symm.push ot6 s2).symm
            have hz7 := q2.size
            obtain ⟨v3, w8, hap3, p3, q3, r3, s3⟩ := Own.pushA (P := Tryd.prog) (T := 40) Tryd.underlying40 gi gz0 gz1 gz2 rfl ot7 (.string T) rfl (by omega) (by rw [ltH.out]; omega) (by rw [ltH.out]; omega)
            have ox8 := ox7.kept r3 a2'
            have ow8 := p2.kept r3 a3'
            have a2'' := a2'.push ox7 s3
            have a3'' := a3'.push p2 s3
            clear s1 s2 s3 r1 r2 r3
            go_wp2_with (first | (at_builtin; refine wpList_append_run hap1 _ _ rfl rfl rfl rfl rfl ?_) | (at_builtin; refine wpList_append_run hap2 _ _ rfl rfl rfl rfl rfl ?_) | (at_builtin; refine wpList_append_run hap3 _ _ rfl rfl rfl rfl rfl ?_))
            go_roundw
            case rel => exact ⟨q + 1, L ++ [(N, W, T)], by omega, by omega, hlH.out, hgH.out, by rw [hnew.out], by go_num, by rw [ex.out]; exact ox8, by rw [ew.out]; exact ow8, by rw [et.out]; exact p3, a1'', a2'', a3'', ((hB5.trans q1).trans q2).trans q3⟩
            case measure => simp [intOf]; omega
        · skip
          have t3 : decide (q < widths.length) = false := tests_of _ _ hwi
          obtain ⟨W, hW⟩ : ∃ W, W = 1 + p0 := ⟨_, rfl⟩
          have hW1 : 1 + (p0 : Int) = (W : Int) := by omega
          have w1' : 1 ≤ W := by omega
          have w7 : W ≤ 7 := by omega
          have w7' : (W : Int) ≤ 7 := by omega
          obtain ⟨pw1, pw2⟩ := pow_wrap w1' w7
          have hpos : 1 ≤ 256 ^ W := Nat.pow_pos (by decide)
          obtain ⟨N, hN, _, kN⟩ := pick_nat num ((256 ^ W : Nat) : Int) hnr.1 hnr.2 (by omega) (by omega)
          have hNlt : N < 256 ^ W := by omega
          have cN := fun W' => num_right N W W' w1' w7 hNlt
          have t4 : decide (q < texts.length) = false := tests_of _ _ hti
          obtain ⟨T, hT⟩ : ∃ T : ByteArray, T = ⟨#[]⟩ := ⟨_, rfl⟩
          have hT20 : T.size ≤ 20 := by rw [hT]; exact Nat.zero_le _
          have hg1 : ∀ y ∈ L ++ [(N, W, T)], GoodI y := good_snoc hgood ⟨w1', w7, hNlt, hT20⟩
          have hfl := flat_len L hgood
          have hS : (lineOf (flat L)).size ≤ 1080 := by rw [lineOf_size]; omega
          have hPs : (lineOf (Pk.be W N)).size = W := by rw [lineOf_size, Pk.be_length]
          have e5 : ((((lineOf (Pk.be W N)).size : Nat) : Int) != (W : Int)) = false := by rw [hPs]; exact bne_self_eq_false _
          have hP7 : (lineOf (Pk.be W N)).size ≤ 7 := by omega
          have hSP : (lineOf (flat L) ++ lineOf (Pk.be W N)).size ≤ 1087 := by rw [ByteArray.size_append]; omega
          have hnew : Hid (lineOf (flat L) ++ lineOf (Pk.be W N) ++ T = lineOf (flat (L ++ [(N, W, T)]))) := Lib.hid (by
            rw [flat_snoc, show T = lineOf T.data.toList from rfl, line_append, line_append, list_lineOf, list_lineOf]; simp only [chunk, List.append_assoc]; rfl)
          obtain ⟨PP, hPP⟩ : ∃ P : Int, ((256 ^ W : Nat) : Int) = P := ⟨_, rfl⟩
          rw [hPP] at pw1 kN
          have e11 : Hid (IntKind.i64.wrap ((2 : Int) ^ (8 * W)) = PP) := Lib.hid ((IntWalk.i64_left _).trans pw1)
          clear pw1
          have hL1 : (L ++ [(N, W, T)]).length = q + 1 := by simp [hLq]
          have ex : Hid (vx (L ++ [(N, W, T)]) = vx L ++ [.int .i64 (N : Int)]) := Lib.hid (by simp [vx])
          have ew : Hid (vw (L ++ [(N, W, T)]) = vw L ++ [.int .i64 (W : Int)]) := Lib.hid (by simp [vw])
          have et : Hid (vt (L ++ [(N, W, T)]) = vt L ++ [.string T]) := Lib.hid (by simp [vt])
          have lx : (vx L).length = q := by simp [vx, hLq]
          have lw' : (vw L).length = q := by simp [vw, hLq]
          have lt' : (vt L).length = q := by simp [vt, hLq]
          have hgH := Lib.hid hg1
          have hlH := Lib.hid hL1
          have lxH := Lib.hid lx
          have lwH := Lib.hid lw'
          have ltH := Lib.hid lt'
          clear hfl hPs hW hPP hL1 hg1 lx lw' lt' hLq pw2 hpos hN hNlt hgood
          generalize lineOf (Pk.be W N) = pb at *
          generalize lineOf (flat L) = S at *
          subst hT
          go_wp2_with (fail)
          refine (k0 _).mono ?_
          rintro e wq ⟨rfl, rfl⟩
          go_wp2_with (fail)
          have e8 : IntKind.i64.wrap (8 * (W : Int)) = 8 * (W : Int) := IntWalk.i64_in _ ⟨by omega, by omega⟩
          have e9 : (0 : Int) ≤ 8 * (W : Int) := by omega
          have e10 : (8 * (W : Int)).toNat = 8 * W := by omega
          go_region_with (go_at_call 26; rw [e11.out]; refine (kN _).mono ?_; rintro e w' ⟨rfl, rfl⟩)
          all_goals
            go_wp2_with (fail)
            refine (cN _).mono ?_
            rintro e w5 ⟨rfl, b5⟩
            have b5' : Below wr.heap.size wr w5 := ⟨b5.os, b5.tape, b5.output, b5.size, b5.block⟩
            clear b5
            have ox5 := ox.after b5'
            have ow5 := ow.after b5'
            have ot5 := ot.after b5'
            have hB5 : Below B w1 w5 := hB.trans (b5'.mono (by omega))
            have hz5 := hB5.size
            obtain ⟨v1, w6, hap1, p1', q1, r1, s1⟩ := Own.pushA (P := Tryd.prog) (T := 39) Tryd.underlying39 hi hz0 hz1 hz2 rfl ox5 (.int .i64 (N : Int)) rfl (by omega) (by rw [lxH.out]; omega) (by rw [lxH.out]; omega)
            have ow6 := ow5.kept r1 a1.symm
            have ot6 := ot5.kept r1 a2.symm
            have a1' := (a1.symm.push ow5 s1).symm
            have a2' := (a2.symm.push ot5 s1).symm
            have hz6 := q1.size
            obtain ⟨v2, w7_, hap2, p2, q2, r2, s2⟩ := Own.pushA (P := Tryd.prog) (T := 39) Tryd.underlying39 hi hz0 hz1 hz2 rfl ow6 (.int .i64 (W : Int)) rfl (by omega) (by rw [lwH.out]; omega) (by rw [lwH.out]; omega)
            have ox7 := p1'.kept r2 a1'
            have ot7 := ot6.kept r2 a3.symm
            have a1'' := a1'.push p1' s2
            have a3' := (a3.symm.push ot6 s2).symm
            have hz7 := q2.size
            obtain ⟨v3, w8, hap3, p3, q3, r3, s3⟩ := Own.pushA (P := Tryd.prog) (T := 40) Tryd.underlying40 gi gz0 gz1 gz2 rfl ot7 (.string ⟨#[]⟩) rfl (by omega) (by rw [ltH.out]; omega) (by rw [ltH.out]; omega)
            have ox8 := ox7.kept r3 a2'
            have ow8 := p2.kept r3 a3'
            have a2'' := a2'.push ox7 s3
            have a3'' := a3'.push p2 s3
            clear s1 s2 s3 r1 r2 r3
            go_wp2_with (first | (at_builtin; refine wpList_append_run hap1 _ _ rfl rfl rfl rfl rfl ?_) | (at_builtin; refine wpList_append_run hap2 _ _ rfl rfl rfl rfl rfl ?_) | (at_builtin; refine wpList_append_run hap3 _ _ rfl rfl rfl rfl rfl ?_))
            go_roundw
            case rel => exact ⟨q + 1, L ++ [(N, W, ⟨#[]⟩)], by omega, by omega, hlH.out, hgH.out, by rw [hnew.out], by go_num, by rw [ex.out]; exact ox8, by rw [ew.out]; exact ow8, by rw [et.out]; exact p3, a1'', a2'', a3'', ((hB5.trans q1).trans q2).trans q3⟩
            case measure => simp [intOf]; omega
    · have hA : q < nums.length → ¬ q < 40 := fun h1 h2 => hlt ⟨h1, h2⟩
      clear hlt
      have hfl := flat_len L hgood
      have hS : (lineOf (flat L)).size ≤ 1080 := by rw [lineOf_size]; omega
      have hFz := fill_any (lineOf (flat L)) (((lineOf (flat L)).size : Int) + (z : Int))
      obtain ⟨g1, g2⟩ := fill_good wr (lineOf (flat L)) ((lineOf (flat L)).size + z) (by omega) (by omega)
      have hF := fun W => hFz W (by omega)
      rw [show (((lineOf (flat L)).size : Int) + (z : Int)) = (((lineOf (flat L)).size + z : Nat) : Int) by omega] at hF
      rw [g1, g2, rem_start, show (((lineOf (flat L)).size + z : Nat) : Int) = (((lineOf (flat L)).size : Int) + (z : Int)) by omega] at hF
      have hL40 : L.length ≤ 40 := by omega
      have hz50 : z ≤ 50 := by omega
      clear hFz g1 g2 hfl
      generalize lineOf (flat L) = S at *
      by_cases h1 : q < nums.length
      · have t1 : (q : Int) < (nums.length : Int) := by omega
        have t2 : decide ((q : Int) < 40) = false := by rw [decide_eq_false_iff_not]; have := hA h1; omega
        clear hA
        obtain ⟨wA, rfl⟩ : ∃ v, v = wr := ⟨_, rfl⟩
        go_wp2_with (fail)
        refine (kz _).mono ?_
        rintro e wq ⟨rfl, rfl⟩
        go_wp2_with (fail)
        refine (hF _).mono ?_
        rintro e w5 ⟨rfl, b5⟩
        go_wp2_with (fail)
        refine (new_any _ _).mono ?_
        rintro e w6 ⟨rfl, hw6⟩
        obtain ⟨b, hb⟩ : ∃ b, w5.heap.size = b := ⟨_, rfl⟩
        have r6 : RdAt w6 b (remB L z 0) false := by rw [hw6, ← hb]; exact RdAt.made _ _ _
        have b6 : Below b w5 w6 := by rw [hw6, ← hb]; exact (Below.refl _ _).alloc (Nat.le_refl _) _
        rw [hb]
        clear hw6
        obtain ⟨ax, kx_, hvx, cellx⟩ := (ox.reads.below b5).vals (f := fun x : Nat × Nat × ByteArray => Value.int .i64 ((x.1 : Nat) : Int))
        obtain ⟨aw2, kw_, hvw, cellw2⟩ := (ow.reads.below b5).vals (f := fun x : Nat × Nat × ByteArray => Value.int .i64 ((x.2.1 : Nat) : Int))
        obtain ⟨at2, kt_, hvt, cellt2⟩ := (ot.reads.below b5).vals (f := fun x : Nat × Nat × ByteArray => Value.string x.2.2)
        rw [hLq] at hvx hvw hvt
        subst hvx
        subst hvw
        subst hvt
        have bS5 : Below B w1 w5 := hB.trans (b5.mono (by omega))
        have h6s := b6.size
        have hbB : B ≤ b := by have := b5.size; omega
        clear ox ow ot a1 a2 a3 hF celln cellw cellt
        go_wp2_with (fail)
        go_loopw [22] (fun i wr => ∃ (j : Nat), j ≤ q ∧ i = .int .i64 (j : Int) ∧ RdAt wr b (remB L z j) false ∧ Below b w5 wr) (fun i _ => q - (intOf i).toNat)
        case atStart => exact ⟨0, by omega, rfl, r6, b6⟩
        case round =>
          obtain ⟨j, hj, rfl, hr, hB6⟩ := hrel
          by_cases hjl : j < q
          · have t9 : (j : Int) < (q : Int) := by omega
            have hjL : j < L.length := by omega
            obtain ⟨xb, xo, rfl, hxb, hxc⟩ := cellx j hjL
            obtain ⟨yb, yo, rfl, hyb, hyc⟩ := cellw2 j hjL
            obtain ⟨zb, zo, rfl, hzb, hzc⟩ := cellt2 j hjL
            have hgj := hgood _ (List.getElem_mem hjL)
            obtain ⟨o1, o2, o3⟩ := rem_num z hjL hgj
            obtain ⟨o4, o5, o6⟩ := mid_txt L z j (L[j]).2.2
            have hs1 := rem_size L z j hgood hL40 hz50
            have hs2 := mid_size L z j (L[j]).2.2 hgood hL40 hz50 hgj.t
            have hDr : RdAt wr.drew b (remB L z j) false := hr.heap rfl
            have cA := rdnum_any b (remB L z j) false ((L[j]).2.1 : Int) wr.drew hDr (by omega)
            rw [o2, o3, o1] at cA
            have cB : ∀ W, RdAt W b (midB L z j (L[j]).2.2) false → Calls Tryd.prog 18 #[.pointer (some ⟨b, 0, none⟩), .int .i64 ((L[j]).2.2.size : Int)] W (Takes W b (.string (L[j]).2.2) (remB L z (j + 1)) false) := fun W h => by
              have := rdtext_any b (midB L z j (L[j]).2.2) false ((L[j]).2.2.size : Int) W h (by omega)
              rw [o4, o5, o6] at this
              exact this
            have hx9 : ∀ W, Below b w5 W → W.cell? ⟨xb, xo + j, none⟩ = some (.int .i64 (((L[j]).1 : Nat) : Int)) := fun W h => by rw [h.cell (p := ⟨xb, xo + j, none⟩) (by show xb < b; omega)]; exact hxc
            have hy9 : ∀ W, Below b w5 W → W.cell? ⟨yb, yo + j, none⟩ = some (.int .i64 (((L[j]).2.1 : Nat) : Int)) := fun W h => by rw [h.cell (p := ⟨yb, yo + j, none⟩) (by show yb < b; omega)]; exact hyc
            have hz9 : ∀ W, Below b w5 W → W.cell? ⟨zb, zo + j, none⟩ = some (.string (L[j]).2.2) := fun W h => by rw [h.cell (p := ⟨zb, zo + j, none⟩) (by show zb < b; omega)]; exact hzc
            have hts := hgj.t
            clear o1 o2 o3 o4 o5 o6 hxc hyc hzc hgj cellx cellw2 cellt2
            generalize L[j].1 = N9 at *
            generalize L[j].2.1 = W9 at *
            generalize L[j].2.2 = T9 at *
            obtain ⟨R1, hR1⟩ : ∃ R, Hid (R = remB L z (j + 1)) := ⟨_, Lib.hid rfl⟩
            rw [← hR1.out] at cB
            generalize midB L z j T9 = M9 at *
            generalize remB L z j = R9 at *
            have eqs : (T9.toList == T9.toList) = true := beq_self_eq_true _
            have dx := hx9 wr hB6
            have dy := hy9 wr hB6
            have dz := hz9 wr hB6
            have hBD : Below b w5 wr.drew := hB6.trans ⟨rfl, rfl, rfl, Nat.le_refl _, fun _ _ => rfl⟩
            have dx' := hx9 wr.drew hBD
            have dy' := hy9 wr.drew hBD
            have dz' := hz9 wr.drew hBD
            have hbd : b ≤ wr.drew.heap.size := by have := hBD.size; omega
            go_wp2_with (fail)
            go_region_held3 (fun W => W.cell? ⟨xb, xo + j, none⟩ = some (.int .i64 ((N9 : Nat) : Int)) ∧ W.cell? ⟨yb, yo + j, none⟩ = some (.int .i64 ((W9 : Nat) : Int)) ∧ W.cell? ⟨zb, zo + j, none⟩ = some (.string T9)) (first | exact ⟨dx8, dy8, dz8⟩ | exact ⟨dx7, dy7, dz7⟩ | exact ⟨dx', dy', dz'⟩ | exact ⟨dx, dy, dz⟩ | go_keep) (first | (go_at_call 16; refine cA.mono ?_; rintro e w7 ⟨rfl, r7⟩; have hB7 := hBD.trans (r7.below (B := b) (Nat.le_refl _) hbd); have dx7 := hx9 w7 hB7; have dy7 := hy9 w7 hB7; have dz7 := hz9 w7 hB7; have hb7 : b ≤ w7.heap.size := Nat.le_trans hbd r7.size) | (go_at_call 18; refine (cB _ r7.r).mono ?_; rintro e w8 ⟨rfl, r8⟩; have hB8 := hB7.trans (r8.below (B := b) (Nat.le_refl _) hb7); have dx8 := hx9 w8 hB8; have dy8 := hy9 w8 hB8; have dz8 := hz9 w8 hB8))
            all_goals
              go_wp2_with (fail)
              go_roundw
              case rel => exact ⟨j + 1, by omega, by go_num, by rw [← hR1.out]; exact r8.r, hB8⟩
              case measure => simp [intOf]; omega
          · have t9 : decide ((j : Int) < (q : Int)) = false := by rw [decide_eq_false_iff_not]; omega
            have hjq : j = L.length := by omega
            have hend : zeroB (remB L z j) = true := by rw [hjq]; exact rem_end L z
            have hsz9 := rem_size L z j hgood hL40 hz50
            have hE := ends_any b (remB L z j) false wr hr (by omega)
            rw [hend] at hE
            have fin : Below B w1 wr := bS5.trans (hB6.mono hbB)
            generalize remB L z j = R9 at *
            clear hend
            go_wp2_with (fail)
            refine hE.mono ?_
            intro e w9 h9
            obtain ⟨rfl, b9, e9⟩ := h9.to
            have r9 := hr.heap e9
            have h9s := hB6.size
            go_wp2_with (fail)
            refine (bad_any b R9 false w9 r9).mono ?_
            rintro e wq ⟨rfl, rfl⟩
            go_wp2_with (fail)
            go_ret
            exact ⟨rfl, below_p b1 ((fin.trans (b9.mono (by omega))).mono (by omega))⟩
      · have t1 : decide (q < nums.length) = false := by rw [decide_eq_false_iff_not]; exact h1
        clear hA
        obtain ⟨wA, rfl⟩ : ∃ v, v = wr := ⟨_, rfl⟩
        go_wp2_with (fail)
        refine (kz _).mono ?_
        rintro e wq ⟨rfl, rfl⟩
        go_wp2_with (fail)
        refine (hF _).mono ?_
        rintro e w5 ⟨rfl, b5⟩
        go_wp2_with (fail)
        refine (new_any _ _).mono ?_
        rintro e w6 ⟨rfl, hw6⟩
        obtain ⟨b, hb⟩ : ∃ b, w5.heap.size = b := ⟨_, rfl⟩
        have r6 : RdAt w6 b (remB L z 0) false := by rw [hw6, ← hb]; exact RdAt.made _ _ _
        have b6 : Below b w5 w6 := by rw [hw6, ← hb]; exact (Below.refl _ _).alloc (Nat.le_refl _) _
        rw [hb]
        clear hw6
        obtain ⟨ax, kx_, hvx, cellx⟩ := (ox.reads.below b5).vals (f := fun x : Nat × Nat × ByteArray => Value.int .i64 ((x.1 : Nat) : Int))
        obtain ⟨aw2, kw_, hvw, cellw2⟩ := (ow.reads.below b5).vals (f := fun x : Nat × Nat × ByteArray => Value.int .i64 ((x.2.1 : Nat) : Int))
        obtain ⟨at2, kt_, hvt, cellt2⟩ := (ot.reads.below b5).vals (f := fun x : Nat × Nat × ByteArray => Value.string x.2.2)
        rw [hLq] at hvx hvw hvt
        subst hvx
        subst hvw
        subst hvt
        have bS5 : Below B w1 w5 := hB.trans (b5.mono (by omega))
        have h6s := b6.size
        have hbB : B ≤ b := by have := b5.size; omega
        clear ox ow ot a1 a2 a3 hF celln cellw cellt
        go_wp2_with (fail)
        go_loopw [22] (fun i wr => ∃ (j : Nat), j ≤ q ∧ i = .int .i64 (j : Int) ∧ RdAt wr b (remB L z j) false ∧ Below b w5 wr) (fun i _ => q - (intOf i).toNat)
        case atStart => exact ⟨0, by omega, rfl, r6, b6⟩
        case round =>
          obtain ⟨j, hj, rfl, hr, hB6⟩ := hrel
          by_cases hjl : j < q
          · have t9 : (j : Int) < (q : Int) := by omega
            have hjL : j < L.length := by omega
            obtain ⟨xb, xo, rfl, hxb, hxc⟩ := cellx j hjL
            obtain ⟨yb, yo, rfl, hyb, hyc⟩ := cellw2 j hjL
            obtain ⟨zb, zo, rfl, hzb, hzc⟩ := cellt2 j hjL
            have hgj := hgood _ (List.getElem_mem hjL)
            obtain ⟨o1, o2, o3⟩ := rem_num z hjL hgj
            obtain ⟨o4, o5, o6⟩ := mid_txt L z j (L[j]).2.2
            have hs1 := rem_size L z j hgood hL40 hz50
            have hs2 := mid_size L z j (L[j]).2.2 hgood hL40 hz50 hgj.t
            have hDr : RdAt wr.drew b (remB L z j) false := hr.heap rfl
            have cA := rdnum_any b (remB L z j) false ((L[j]).2.1 : Int) wr.drew hDr (by omega)
            rw [o2, o3, o1] at cA
            have cB : ∀ W, RdAt W b (midB L z j (L[j]).2.2) false → Calls Tryd.prog 18 #[.pointer (some ⟨b, 0, none⟩), .int .i64 ((L[j]).2.2.size : Int)] W (Takes W b (.string (L[j]).2.2) (remB L z (j + 1)) false) := fun W h => by
              have := rdtext_any b (midB L z j (L[j]).2.2) false ((L[j]).2.2.size : Int) W h (by omega)
              rw [o4, o5, o6] at this
              exact this
            have hx9 : ∀ W, Below b w5 W → W.cell? ⟨xb, xo + j, none⟩ = some (.int .i64 (((L[j]).1 : Nat) : Int)) := fun W h => by rw [h.cell (p := ⟨xb, xo + j, none⟩) (by show xb < b; omega)]; exact hxc
            have hy9 : ∀ W, Below b w5 W → W.cell? ⟨yb, yo + j, none⟩ = some (.int .i64 (((L[j]).2.1 : Nat) : Int)) := fun W h => by rw [h.cell (p := ⟨yb, yo + j, none⟩) (by show yb < b; omega)]; exact hyc
            have hz9 : ∀ W, Below b w5 W → W.cell? ⟨zb, zo + j, none⟩ = some (.string (L[j]).2.2) := fun W h => by rw [h.cell (p := ⟨zb, zo + j, none⟩) (by show zb < b; omega)]; exact hzc
            have hts := hgj.t
            clear o1 o2 o3 o4 o5 o6 hxc hyc hzc hgj cellx cellw2 cellt2
            generalize L[j].1 = N9 at *
            generalize L[j].2.1 = W9 at *
            generalize L[j].2.2 = T9 at *
            obtain ⟨R1, hR1⟩ : ∃ R, Hid (R = remB L z (j + 1)) := ⟨_, Lib.hid rfl⟩
            rw [← hR1.out] at cB
            generalize midB L z j T9 = M9 at *
            generalize remB L z j = R9 at *
            have eqs : (T9.toList == T9.toList) = true := beq_self_eq_true _
            have dx := hx9 wr hB6
            have dy := hy9 wr hB6
            have dz := hz9 wr hB6
            have hBD : Below b w5 wr.drew := hB6.trans ⟨rfl, rfl, rfl, Nat.le_refl _, fun _ _ => rfl⟩
            have dx' := hx9 wr.drew hBD
            have dy' := hy9 wr.drew hBD
            have dz' := hz9 wr.drew hBD
            have hbd : b ≤ wr.drew.heap.size := by have := hBD.size; omega
            go_wp2_with (fail)
            go_region_held3 (fun W => W.cell? ⟨xb, xo + j, none⟩ = some (.int .i64 ((N9 : Nat) : Int)) ∧ W.cell? ⟨yb, yo + j, none⟩ = some (.int .i64 ((W9 : Nat) : Int)) ∧ W.cell? ⟨zb, zo + j, none⟩ = some (.string T9)) (first | exact ⟨dx8, dy8, dz8⟩ | exact ⟨dx7, dy7, dz7⟩ | exact ⟨dx', dy', dz'⟩ | exact ⟨dx, dy, dz⟩ | go_keep) (first | (go_at_call 16; refine cA.mono ?_; rintro e w7 ⟨rfl, r7⟩; have hB7 := hBD.trans (r7.below (B := b) (Nat.le_refl _) hbd); have dx7 := hx9 w7 hB7; have dy7 := hy9 w7 hB7; have dz7 := hz9 w7 hB7; have hb7 : b ≤ w7.heap.size := Nat.le_trans hbd r7.size) | (go_at_call 18; refine (cB _ r7.r).mono ?_; rintro e w8 ⟨rfl, r8⟩; have hB8 := hB7.trans (r8.below (B := b) (Nat.le_refl _) hb7); have dx8 := hx9 w8 hB8; have dy8 := hy9 w8 hB8; have dz8 := hz9 w8 hB8))
            all_goals
              go_wp2_with (fail)
              go_roundw
              case rel => exact ⟨j + 1, by omega, by go_num, by rw [← hR1.out]; exact r8.r, hB8⟩
              case measure => simp [intOf]; omega
          · have t9 : decide ((j : Int) < (q : Int)) = false := by rw [decide_eq_false_iff_not]; omega
            have hjq : j = L.length := by omega
            have hend : zeroB (remB L z j) = true := by rw [hjq]; exact rem_end L z
            have hsz9 := rem_size L z j hgood hL40 hz50
            have hE := ends_any b (remB L z j) false wr hr (by omega)
            rw [hend] at hE
            have fin : Below B w1 wr := bS5.trans (hB6.mono hbB)
            generalize remB L z j = R9 at *
            clear hend
            go_wp2_with (fail)
            refine hE.mono ?_
            intro e w9 h9
            obtain ⟨rfl, b9, e9⟩ := h9.to
            have r9 := hr.heap e9
            have h9s := hB6.size
            go_wp2_with (fail)
            refine (bad_any b R9 false w9 r9).mono ?_
            rintro e wq ⟨rfl, rfl⟩
            go_wp2_with (fail)
            go_ret
            exact ⟨rfl, below_p b1 ((fin.trans (b9.mono (by omega))).mono (by omega))⟩
end Go.Proofs.YtkjpdpjogcifoaaDoor
