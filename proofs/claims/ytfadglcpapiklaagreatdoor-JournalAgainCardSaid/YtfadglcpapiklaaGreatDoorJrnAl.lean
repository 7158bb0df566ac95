/- journal: JournalAgain. -/
import Derived.Test.YtfadglcpapiklaaGreatDoorJrnPu
import Derived.Test.YtfadglcpapiklaaGreatDoorJrnAg
namespace Go.Proofs.YtfadglcpapiklaaGreatDoor
open Go.RowKit
open Rc
set_option linter.unusedVariables false
set_option linter.unusedSimpArgs false
set_option maxRecDepth 100000

theorem pendN (n : Nat) : pend n noV = [] := by
  rw [List.eq_nil_iff_forall_not_mem]
  intro x hx
  obtain ⟨i, _, h2, _⟩ := mem_pend.1 hx
  simp [zOf, noV] at h2
/-- What an image is, and that nothing is pending, behind a Put to all. -/
theorem all_image {n sec k i j : Nat} {q : Int} {ss : List St} {R R' : Rk} (h : PutTo n sec k i q ss (allL n) R R') (hf : ∀ j, j < n → (R.M j).fd = false) (hj : j < n) : (imR n R' (j : Int)).length = sec ∧ peR n R' (j : Int) = 0 := by
  obtain ⟨b, v, _⟩ := h.bay j hj (allL_mem.2 (by omega)) (hf j hj)
  unfold imR peR
  rw [if_pos (hasK_nat hj), if_pos (hasK_nat hj), Int.toNat_natCast, v]
  refine ⟨?_, ?_⟩
  · unfold imL; rw [if_neg (by rw [b.al]; simp)]; exact h.u.l j hj
  · rw [pendN]; rfl
theorem wrap64_in {x : Int} (h1 : -9223372036854775808 ≤ x) (h2 : x ≤ 9223372036854775807) : wrap64 x = x := by unfold wrap64; omega
theorem again_sums {j k m D A : Nat} (hj : j = k + m) (h7 : j ≤ 7) (hD : D ≤ 64) (hA : A = j * (D + 3)) : wrap64 (((k : Int) + (m : Int)) * ((D : Int) + 3)) = (A : Int) ∧ wrap64 (2 * (A : Int)) = 2 * (A : Int) := by
  have hA7 : A ≤ 7 * 67 := by rw [hA]; exact Nat.mul_le_mul h7 (by omega)
  have this : ((k : Int) + (m : Int)) * ((D : Int) + 3) = (A : Int) := by
    rw [show (k : Int) + (m : Int) = (j : Int) by omega, hA]
    push_cast; rfl
  rw [this]
  exact ⟨wrap64_in (by omega) (by omega), wrap64_in (by omega) (by omega)⟩
theorem again_image {n sec k i : Nat} {q : Int} {ss : List St} {R R1 R2 : Rk} {l : List Int} (hl : ∀ x ∈ l, 0 ≤ x ∧ x < (n : Int)) (h1 : PutTo n sec k i q ss l R R1) (h2 : PutTo n sec k i q ss l R1 R2) (x : Int) : imR n R2 x = imR n R1 x := by
  unfold imR; rw [put_again (m := 0) (B := 0) hl h1 h2]
set_option maxHeartbeats 4000000 in
theorem jagain_walk (r : Raw) (vs vl : Value) (w : World) (hok : RawOk r) (hst : Reads w vs (r.st.map (.int .i64))) (hle : Reads w vl (r.le.map (.int .i64))) :
    Calls Tryz.prog 5 #[r.v vs vl] w fun e w' => e = .returned (.bool true) ∧ Below w.heap.size w w' := by
  obtain ⟨p, hp⟩ : ∃ p, w.heap.size = p := ⟨_, rfl⟩
  have A0 := RwB.made w r vs vl 26
  have b0 : Below p w (w.alloc (.cells #[.int .i64 r.k, .int .i64 r.m, .int .i64 r.b, .int .i64 r.q, vs, vl] 26)) := (Below.refl _ _).alloc (by omega) _
  rw [hp] at A0
  have hst1 := hst.below (by rw [hp]; exact b0)
  have hle1 := hle.below (by rw [hp]; exact b0)
  clear hst hle
  unfold Raw.v
  go_enter Tryz.func5, Tryz.ntmps5
  go_wp2_with (fail)
  replace hp := Lib.hid hp
  generalize w.alloc (.cells #[.int .i64 r.k, .int .i64 r.m, .int .i64 r.b, .int .i64 r.q, vs, vl] 26) = w0 at *
  refine (awake12_any _).mono ?_
  rintro e w1 ⟨rfl, b1⟩
  have A1 := A0.below b1 A0.lt
  have B1 := b0.trans (b1.mono (by have := A0.lt; omega))
  have hst2 := hst1.below b1
  have hle2 := hle1.below b1
  obtain ⟨sa, sc, hvs⟩ := hst2.isSlice
  obtain ⟨la, lc, hvl⟩ := hle2.isSlice
  rw [List.length_map] at hvs hvl
  subst hvs
  subst hvl
  clear A0 b0 b1 hst1 hle1
  have e0 := A1.a0
  have e1 := A1.a1
  have e2 := A1.a2
  have e3 := A1.a3
  have e4 := A1.a4
  have e5 := A1.a5
  have cF := fit11_any r _ _ w1 hok hst2 hle2
  unfold Raw.v at cF
  go_wp2_with (fail)
  refine cF.mono ?_
  rintro e w2 ⟨v, l, rfl, F2, hl, b2⟩
  have hpw1 : p < w1.heap.size := A1.lt
  have B2 := B1.trans (b2.mono (by have := A1.lt; omega))
  have hpw2 : p < w2.heap.size := by have := b2.size; omega
  clear e0 e1 e2 e3 e4 e5 cF A1 B1 b2 hst2 hle2
  have hR := fit_ok11 r hl
  obtain ⟨va, vc, ev⟩ := F2.o.isSlice
  subst ev
  have L2 := F2.reads (right_reads hR)
  have O2 : Hid (∀ q, ((Value.slice va l.length vc).ownBlock = some q ∨ ∃ s ∈ l, s.v.ownBlock = some q) → q < w2.heap.size) := Lib.hid fun q hq => by
    rcases hq with hq | ⟨s, hs, hq⟩
    · exact (F2.old _ (.inl rfl) q hq).2
    · exact (F2.old _ (.inr ⟨s, hs, rfl⟩) q hq).2
  obtain ⟨n, sec, k, m, eK, eM, hG0⟩ := gm_fit r
  have hq1 : 1 ≤ fitQ r ∧ fitQ r ≤ 1099511627776 := (right_g hR).2
  generalize fB11 r.b = B at *
  generalize fitQ r = q at *
  generalize fK11 r.k = K at *
  generalize fM11 r.m = M at *
  subst eK
  subst eM
  have HG := Lib.hid hG0
  have HR := Lib.hid hR
  have hln : l.length ≤ 1000 := by
    have := (body_len hG0 hR).2.1
    have h2 := hG0.rng
    have h3 := (body_len hG0 hR).1
    have h4 : l.length * 1 ≤ l.length * k := Nat.mul_le_mul_left _ h2.1
    omega
  have hkm := hG0.rng
  clear hl hok F2 hG0 hR
  obtain ⟨g, hg⟩ : ∃ g, w2.heap.size = g := ⟨_, rfl⟩
  have s3 : (w2.alloc (.cells #[.int .i64 (k : Int), .int .i64 (m : Int), .int .i64 B] 23)).heap.size = g + 1 := by simp [hg]
  obtain ⟨hGb, hXb, hbb, hsz⟩ := two_boxes2 w2 #[.int .i64 (k : Int), .int .i64 (m : Int), .int .i64 B] #[.int .i64 q, .slice va l.length vc] 23 30
  have X4 := RBx.made (w2.alloc (.cells #[.int .i64 (k : Int), .int .i64 (m : Int), .int .i64 B] 23)) q (.slice va l.length vc) 30
  rw [s3] at X4
  rw [hg] at hGb hsz
  have L4 := L2.below hbb
  have B4 := Lib.hid (B2.trans (hbb.mono (by omega)))
  have O4 : Hid (w2.heap.size = g) := Lib.hid hg
  have hp4 : p < g := by omega
  clear L2 s3 hbb B2 hXb hpw2
  go_upto_region 3 with (fail)
  generalize (w2.alloc (.cells #[.int .i64 (k : Int), .int .i64 (m : Int), .int .i64 B] 23)).alloc (.cells #[.int .i64 q, .slice va l.length vc] 30) = w4 at *
  clear hg
  have cK := racks12_any HG.out w4
  have c0 : w4.cell? ⟨g, 0, none⟩ = some (.int .i64 (k : Int)) := heap_cell hGb rfl
  have c1 : w4.cell? ⟨g, 1, none⟩ = some (.int .i64 (m : Int)) := heap_cell hGb rfl
  have c2 : w4.cell? ⟨g, 2, none⟩ = some (.int .i64 B) := heap_cell hGb rfl
  go_wp2_with (fail)
  refine cK.mono ?_
  rintro e w5 ⟨S5, ka, wq, Sb, kb, rfl, a5, _, _, _⟩
  have X5 : RW w4 S5 w5 ka n g (g + 1) (k : Int) (m : Int) B q (.slice va l.length vc) l (R00 sec) := rw_new a5 hGb X4 L4 (fun y hy => by have := O2.out y hy; have := O4.out; omega)
  clear c0 c1 c2 cK hGb X4 L4 a5 O2 hsz

  have hn5 : ((n : Nat) : Int) = (k : Int) + (m : Int) := by have := HG.out.n; omega
  have HNK : Hid (((n : Nat) : Int) = (k : Int) + (m : Int) ∧ n = k + m ∧ 2 ≤ n ∧ n ≤ 7 ∧ k ≤ 4 ∧ m ≤ 3) := Lib.hid ⟨hn5, HG.out.n, by omega, by omega, by omega, by omega⟩
  have HBw : Hid (Below w.heap.size w w4) := Lib.hid (by rw [hp.out]; exact B4.out)
  have HAll : Hid (∀ W, Calls Tryz.prog 14 #[.agg #[.int .i64 (k : Int), .int .i64 (m : Int), .int .i64 B]] W (GivesZ W (allL n))) := Lib.hid fun W => by
    have := all12_any k m B W (by omega) (by omega)
    rw [← HG.out.n] at this
    exact this
  have hrg := HG.out.rng
  obtain ⟨R1, hPT1, hK1, hP1⟩ := put_all (c := 0) HG.out (up_00 (by omega) (by omega)) HR.out (fun j _ => rfl) (rok_00 n sec) (by omega) hln X5
  have HPT1 := Lib.hid (And.intro hPT1 hK1)
  have HP1 := Lib.hid hP1
  clear hPT1 hK1 hP1 hrg hn5

  obtain ⟨⟨c0, c1, c2⟩, c3, c4⟩ := X5.cells
  go_upto_region 7 with (fail)
  clear c0 c1 c2 c3 c4
  refine wp_region_held_drew (S := fun W => W.heap[g]? = some (.cells #[.int .i64 (k : Int), .int .i64 (m : Int), .int .i64 B] 23 (0, 0)) ∧ W.cell? ⟨g + 1, 0, none⟩ = some (.int .i64 q) ∧ W.cell? ⟨g + 1, 1, none⟩ = some (.slice va l.length vc)) (by kernel_rfl) (X5.after (Below.drew_ w5)).bx (fun hHeld => ?_)
  refine wpAnyH_takeD (i := 0) (some 40) rfl (by kernel_rfl) (by kernel_rfl) (by kernel_rfl) rfl (fun _ _ _ h => h) (Or.inl ⟨by rfl, by rintro w hs1; first | rfl | (go_simp; done) | (go_simp; rfl)⟩) (by assumption) ?_
  simp only [Act.put, List.setIfInBounds_toArray, List.set_cons_zero, List.set_cons_succ]
  refine wpAnyH_takeD (i := 1) (v := .agg #[.int .i64 (k : Int), .int .i64 (m : Int), .int .i64 B]) (some 41) rfl (by kernel_rfl) (by kernel_rfl) (by kernel_rfl) rfl (fun _ _ _ h => h) (yieldsIf_load_run (by rfl) _ rfl rfl (fun _ hs => geo_load hs.1)) (by assumption) ?_
  simp only [Act.put, List.setIfInBounds_toArray, List.set_cons_zero, List.set_cons_succ]
  refine wpAnyH_takeD (i := 2) (v := .agg #[.int .i64 (k : Int), .int .i64 (m : Int), .int .i64 B]) (some 42) rfl (by kernel_rfl) (by kernel_rfl) (by kernel_rfl) rfl (fun _ _ _ h => h) (yieldsIf_load_run (by rfl) _ rfl rfl (fun _ hs => geo_load hs.1)) (by assumption) ?_
  simp only [Act.put, List.setIfInBounds_toArray, List.set_cons_zero, List.set_cons_succ]
  refine wpAnyH_takeD (i := 4) (v := .agg #[.int .i64 q, (.slice va l.length vc)]) (some 44) rfl (by kernel_rfl) (by kernel_rfl) (by kernel_rfl) rfl (fun _ _ _ h => h) (yieldsIf_load_run (by rfl) _ rfl rfl (fun _ hs => rec_load hs.2.1 hs.2.2)) (by assumption) ?_
  simp only [Act.put, List.setIfInBounds_toArray, List.set_cons_zero, List.set_cons_succ]
  refine wpAnyH_ready (rs := [3]) (by kernel_rfl) (by simp) ?_
  refine AllReadyH.cons rfl (fun K hK => ?_) AllReadyH.nil
  go_simp
  refine (HAll.out w5.drew).mono ?_
  rintro e z6 ⟨va6, rfl, oa6, ba6⟩
  have bb6 := (Below.drew_ w5).trans ba6
  have G6 := X5.after bb6
  have cPu := HP1.out z6 va6 bb6 (LsN.own oa6 fun q hq => X5.jw.ra.lt q hq) oa6.capOk
  clear oa6
  refine hK.out _ _ G6.bx (fun hHeld => ?_)
  clear hK
  try simp only [Act.put, List.setIfInBounds_toArray, List.set_cons_zero, List.set_cons_succ]
  refine wpAnyH_ready (rs := [5]) (by kernel_rfl) (by simp) ?_
  refine AllReadyH.cons rfl (fun K hK => ?_) AllReadyH.nil
  go_simp
  refine cPu.mono ?_
  rintro e w7 ⟨vw7, rfl, S7, s7, a7, ow7, nw7⟩
  obtain ⟨xw, yw, hfw0⟩ := ow7.reads.form
  have hfw : vw7 = .slice xw 0 yw := hfw0
  clear hfw0
  subst hfw
  have X7 := G6.stp s7 a7
  refine hK.out _ _ X7.bx (fun hHeld => ?_)
  clear hK
  try simp only [Act.put, List.setIfInBounds_toArray, List.set_cons_zero, List.set_cons_succ]
  refine wpAnyH_takeD (i := 6) (v := .tuple #[.slice xw 0 yw, .int .i64 0]) (some 39) rfl (by kernel_rfl) (by kernel_rfl) (by kernel_rfl) rfl (fun _ _ _ h => h) (Or.inl ⟨by rfl, by rintro w hs1; first | rfl | (go_simp; done) | (go_simp; rfl)⟩) (by assumption) ?_
  simp only [Act.put, List.setIfInBounds_toArray, List.set_cons_zero, List.set_cons_succ]
  refine wpAnyH_takeD (i := 7) (v := .slice xw 0 yw) (some 46) rfl (by kernel_rfl) (by kernel_rfl) (by kernel_rfl) rfl (fun _ _ _ h => h) (Or.inl ⟨by rfl, by rintro w hs1; first | rfl | (go_simp; done) | (go_simp; rfl)⟩) (by assumption) ?_
  simp only [Act.put, List.setIfInBounds_toArray, List.set_cons_zero, List.set_cons_succ]
  refine wpAnyH_takeD (i := 8) (v := .int .i64 0) (some 47) rfl (by kernel_rfl) (by kernel_rfl) (by kernel_rfl) rfl (fun _ _ _ h => h) (Or.inl ⟨by rfl, by rintro w hs1; first | rfl | (go_simp; done) | (go_simp; rfl)⟩) (by assumption) ?_
  simp only [Act.put, List.setIfInBounds_toArray, List.set_cons_zero, List.set_cons_succ]
  refine wpAnyH_takeD (i := 9) (v := .slice xw 0 yw) (some 9) rfl (by kernel_rfl) (by kernel_rfl) (by kernel_rfl) rfl (fun _ _ _ h => h) (Or.inl ⟨by rfl, by rintro w hs1; first | rfl | (go_simp; done) | (go_simp; rfl)⟩) (by assumption) ?_
  simp only [Act.put, List.setIfInBounds_toArray, List.set_cons_zero, List.set_cons_succ]
  refine wpAnyH_takeD (i := 10) (v := .int .i64 0) (some 10) rfl (by kernel_rfl) (by kernel_rfl) (by kernel_rfl) rfl (fun _ _ _ h => h) (Or.inl ⟨by rfl, by rintro w hs1; first | rfl | (go_simp; done) | (go_simp; rfl)⟩) (by assumption) ?_
  simp only [Act.put, List.setIfInBounds_toArray, List.set_cons_zero, List.set_cons_succ]
  refine wpAnyH_done (by kernel_rfl) ?_ _
  have st7 := (Stp.quiet bb6).trans s7
  clear hHeld cPu ow7 nw7 bb6 ba6 G6 s7 a7

  have cA := rt_acts X7.jw.ra
  have hU1 := HPT1.out.1.u
  have hf1 := put_alive HPT1.out.1 (fun j _ => rfl)
  have HI := Lib.hid (fun j (hj : j < n) => all_image HPT1.out.1 (fun j _ => rfl) hj)
  have HX7 := Lib.hid X7
  obtain ⟨A, hA, hAr⟩ : ∃ A : Nat, R1.acts = (A : Int) ∧ A = n * ((allT l).length + 3) := by
    have e := HPT1.out.1.acts (fun x _ => rfl)
    rw [allL_len] at e
    refine ⟨n * ((allT l).length + 3), ?_, rfl⟩
    rw [e]
    show (0 : Int) + (n : Int) * (((allT l).length : Int) + 3) = _
    rw [Int.zero_add, Int.natCast_mul, Int.natCast_add]
    rfl
  rw [hA] at cA
  have HA := Lib.hid (And.intro hA hAr)
  clear hA hAr X5 X7 st7 HP1
  go_wp2_with (fail)
  refine cA.mono ?_
  rintro e wz ⟨rfl, rfl⟩
  clear cA
  go_wp2_with (fail)
  go_loopw [12, 13] (fun s12 t wr => ∃ (i : Nat) (X : Nat → Value), i ≤ n ∧ t = .int .i64 (i : Int) ∧ (∃ a c, s12 = .slice a i c) ∧ Was wr w7.heap.size S7 i s12 X (fun j => imR n R1 (j : Int)) ∧ Below w7.heap.size w7 wr) (fun _ t _ => n - (RowKit.intOf t).toNat)
  case atStart => exact ⟨0, fun _ => .nilFunc, Nat.zero_le _, rfl, ⟨_, _, rfl⟩, Was.nil _ _ _ _ _, Below.refl _ _⟩
  case round =>
    obtain ⟨i, Xs, hi, rfl, ⟨fa, fc, hfm⟩, hW, hB⟩ := hrel
    rename World => wr
    subst hfm
    by_cases hlt : i < n
    · have y1 : (i : Int) < (k : Int) + (m : Int) := by have := HNK.out.1; omega
      have cI := rt_image (HX7.out.after hB).jw.ra (i : Int)
      have hil := (HI.out i hlt).1
      have hs0 := HG.out.rng
      have hil2 : 0 < ((imR n R1 (i : Int)).map Value.string).length := by rw [List.length_map]; omega
      obtain ⟨IM, hIM⟩ : ∃ IM, imR n R1 (i : Int) = IM := ⟨_, rfl⟩
      rw [hIM] at cI hil2
      have HIM := Lib.hid hIM
      have HWX := Lib.hid (And.intro hW hB)
      clear hil hs0 hIM hW hB
      go_wp2_with (fail)
      refine cI.mono ?_
      rintro e w2 ⟨v, rfl, b2, o2⟩
      obtain ⟨x2, cap2, rfl, hx2, hx2l⟩ := o2.form hil2
      rw [List.length_map] at o2 hil2
      obtain ⟨v', w3, hfm, hap, hW3, hb3, hS3⟩ := HWX.out.1.pushG HWX.out.2.size (by have := HNK.out; omega) b2 o2 (fun b hb => by have := HX7.out.jw.ra.lt b hb; have := HWX.out.2.size; omega)
      rw [← HIM.out, upd_me] at hW3
      obtain ⟨ga, gc, hgf⟩ : ∃ a c, v' = .slice a (i + 1) c := by
        obtain ⟨a, c, hf⟩ := hW3.o.reads.form
        rw [rowV_len] at hf
        exact ⟨a, c, hf⟩
      have HF := Lib.hid (And.intro hgf (And.intro hW3 ((HWX.out.2.trans (b2.mono HWX.out.2.size)).trans hb3)))
      clear cI b2 o2 hx2 hx2l hil2 hW3 hb3 hS3 hfm hgf HWX HIM
      go_wp2_with (at_builtin; refine wpList_append_run hap _ _ rfl rfl rfl rfl rfl ?_)
      go_roundw
      case rel => exact ⟨i + 1, _, by omega, by go_num, ⟨_, _, HF.out.1⟩, HF.out.2.1, HF.out.2.2⟩
      case measure => simp [RowKit.intOf]; omega
    · obtain rfl : i = n := by omega
      have y1 : ¬ ((i : Int) < (k : Int) + (m : Int)) := by have := HNK.out.1; omega
      have X9 := HX7.out.after hB
      obtain ⟨R2, hPT2, hK2, hP2⟩ := put_all (c := 1792) HG.out hU1 HR.out hf1 HPT1.out.2 (by omega) hln X9
      have HP2 := Lib.hid hP2
      have HI2 := Lib.hid (fun j (hj : j < i) => And.intro (again_image (fun x hx => allL_mem.1 hx) HPT1.out.1 hPT2 (j : Int)) (all_image hPT2 hf1 hj).2)
      have HA2 : Hid (R2.acts = ((2 * A : Nat) : Int)) := Lib.hid (by have := (acts_again HPT1.out.1 hPT2).2; rw [HA.out.1] at this; rw [this]; push_cast; rfl)
      have HWas := Lib.hid hW
      have HB9 := Lib.hid hB
      clear hPT2 hK2 hP2 hW hB hU1 hf1 HX7
      go_upto_region 14 with (fail)
      refine wp_region_held_drew (S := fun W => W.heap[g]? = some (.cells #[.int .i64 (k : Int), .int .i64 (m : Int), .int .i64 B] 23 (0, 0)) ∧ W.cell? ⟨g + 1, 0, none⟩ = some (.int .i64 q) ∧ W.cell? ⟨g + 1, 1, none⟩ = some (.slice va l.length vc)) (by kernel_rfl) (X9.after (Below.drew_ wr)).bx (fun hHeld => ?_)
      refine wpAnyH_takeD (i := 0) (some 62) rfl (by kernel_rfl) (by kernel_rfl) (by kernel_rfl) rfl (fun _ _ _ h => h) (Or.inl ⟨by rfl, by rintro w hs1; first | rfl | (go_simp; done) | (go_simp; rfl)⟩) (by assumption) ?_
      simp only [Act.put, List.setIfInBounds_toArray, List.set_cons_zero, List.set_cons_succ]
      refine wpAnyH_takeD (i := 1) (v := .agg #[.int .i64 (k : Int), .int .i64 (m : Int), .int .i64 B]) (some 63) rfl (by kernel_rfl) (by kernel_rfl) (by kernel_rfl) rfl (fun _ _ _ h => h) (yieldsIf_load_run (by rfl) _ rfl rfl (fun _ hs => geo_load hs.1)) (by assumption) ?_
      simp only [Act.put, List.setIfInBounds_toArray, List.set_cons_zero, List.set_cons_succ]
      refine wpAnyH_takeD (i := 2) (v := .agg #[.int .i64 (k : Int), .int .i64 (m : Int), .int .i64 B]) (some 64) rfl (by kernel_rfl) (by kernel_rfl) (by kernel_rfl) rfl (fun _ _ _ h => h) (yieldsIf_load_run (by rfl) _ rfl rfl (fun _ hs => geo_load hs.1)) (by assumption) ?_
      simp only [Act.put, List.setIfInBounds_toArray, List.set_cons_zero, List.set_cons_succ]
      refine wpAnyH_takeD (i := 4) (v := .agg #[.int .i64 q, (.slice va l.length vc)]) (some 66) rfl (by kernel_rfl) (by kernel_rfl) (by kernel_rfl) rfl (fun _ _ _ h => h) (yieldsIf_load_run (by rfl) _ rfl rfl (fun _ hs => rec_load hs.2.1 hs.2.2)) (by assumption) ?_
      simp only [Act.put, List.setIfInBounds_toArray, List.set_cons_zero, List.set_cons_succ]
      refine wpAnyH_ready (rs := [3]) (by kernel_rfl) (by simp) ?_
      refine AllReadyH.cons rfl (fun K hK => ?_) AllReadyH.nil
      go_simp
      refine (HAll.out wr.drew).mono ?_
      rintro e z6 ⟨va6, rfl, oa6, ba6⟩
      have bb6 := (Below.drew_ wr).trans ba6
      have G6 := X9.after bb6
      have cPu := HP2.out z6 va6 bb6 (LsN.own oa6 fun q hq => X9.jw.ra.lt q hq) oa6.capOk
      clear oa6
      refine hK.out _ _ G6.bx (fun hHeld => ?_)
      clear hK
      try simp only [Act.put, List.setIfInBounds_toArray, List.set_cons_zero, List.set_cons_succ]
      refine wpAnyH_ready (rs := [5]) (by kernel_rfl) (by simp) ?_
      refine AllReadyH.cons rfl (fun K hK => ?_) AllReadyH.nil
      go_simp
      refine cPu.mono ?_
      rintro e w8 ⟨vw7, rfl, S8, s8, a8, ow7, nw7⟩
      obtain ⟨xw, yw, hfw0⟩ := ow7.reads.form
      have hfw : vw7 = .slice xw 0 yw := hfw0
      clear hfw0
      subst hfw
      have X8 := G6.stp s8 a8
      refine hK.out _ _ X8.bx (fun hHeld => ?_)
      clear hK
      try simp only [Act.put, List.setIfInBounds_toArray, List.set_cons_zero, List.set_cons_succ]
      refine wpAnyH_takeD (i := 6) (v := .tuple #[.slice xw 0 yw, .int .i64 0]) (some 61) rfl (by kernel_rfl) (by kernel_rfl) (by kernel_rfl) rfl (fun _ _ _ h => h) (Or.inl ⟨by rfl, by rintro w hs1; first | rfl | (go_simp; done) | (go_simp; rfl)⟩) (by assumption) ?_
      simp only [Act.put, List.setIfInBounds_toArray, List.set_cons_zero, List.set_cons_succ]
      refine wpAnyH_takeD (i := 7) (v := .slice xw 0 yw) (some 68) rfl (by kernel_rfl) (by kernel_rfl) (by kernel_rfl) rfl (fun _ _ _ h => h) (Or.inl ⟨by rfl, by rintro w hs1; first | rfl | (go_simp; done) | (go_simp; rfl)⟩) (by assumption) ?_
      simp only [Act.put, List.setIfInBounds_toArray, List.set_cons_zero, List.set_cons_succ]
      refine wpAnyH_takeD (i := 8) (v := .int .i64 0) (some 69) rfl (by kernel_rfl) (by kernel_rfl) (by kernel_rfl) rfl (fun _ _ _ h => h) (Or.inl ⟨by rfl, by rintro w hs1; first | rfl | (go_simp; done) | (go_simp; rfl)⟩) (by assumption) ?_
      simp only [Act.put, List.setIfInBounds_toArray, List.set_cons_zero, List.set_cons_succ]
      refine wpAnyH_takeD (i := 9) (v := .slice xw 0 yw) (some 14) rfl (by kernel_rfl) (by kernel_rfl) (by kernel_rfl) rfl (fun _ _ _ h => h) (Or.inl ⟨by rfl, by rintro w hs1; first | rfl | (go_simp; done) | (go_simp; rfl)⟩) (by assumption) ?_
      simp only [Act.put, List.setIfInBounds_toArray, List.set_cons_zero, List.set_cons_succ]
      refine wpAnyH_takeD (i := 10) (v := .int .i64 0) (some 15) rfl (by kernel_rfl) (by kernel_rfl) (by kernel_rfl) rfl (fun _ _ _ h => h) (Or.inl ⟨by rfl, by rintro w hs1; first | rfl | (go_simp; done) | (go_simp; rfl)⟩) (by assumption) ?_
      simp only [Act.put, List.setIfInBounds_toArray, List.set_cons_zero, List.set_cons_succ]
      refine wpAnyH_done (by kernel_rfl) ?_ _
      have st8 := (Stp.quiet bb6).trans s8
      clear hHeld cPu ow7 nw7 bb6 ba6 G6 s8 a8
      have HX8 := Lib.hid (X8.jw.ra)
      have HX8a := Lib.hid X8
      have HW8 := Lib.hid (HWas.out.step st8)
      have HX9 : Hid (w7.heap.size ≤ wr.heap.size) := Lib.hid HB9.out.size
      clear X9 X8 st8 HWas HB9 HP2
      go_wp2_with (fail)
      go_loopw [16] (fun t wy => ∃ (j : Nat), j ≤ i ∧ t = .int .i64 (j : Int) ∧ Below w8.heap.size w8 wy) (fun t _ => i - (RowKit.intOf t).toNat)
      case atStart => exact ⟨0, Nat.zero_le _, rfl, Below.refl _ _⟩
      case round =>
        obtain ⟨j, hj, rfl, hB⟩ := hrel
        rename World => wy
        have X10 := HX8a.out.after hB
        by_cases hlt : j < i
        · have y1 : (j : Int) < (k : Int) + (m : Int) := by have := HNK.out.1; omega
          have hW10 := HW8.out.after hB
          obtain ⟨gq, gcap, hgf, _, _⟩ := hW10.o.form (by rw [rowV_len]; omega)
          rw [rowV_len] at hgf
          injection hgf with z1 z2 z3
          subst z1
          subst z3
          have hcw := hW10.cell hlt
          have hrw := hW10.r j hlt
          obtain ⟨IM, hIM⟩ : ∃ IM, imR i R1 (j : Int) = IM := ⟨_, rfl⟩
          have hIl : 0 < IM.length ∧ IM.length ≤ 1000 := by have := (HI.out j hlt).1; have := HG.out.rng; rw [← hIM]; omega
          have hi2 := HI2.out j hlt
          have cI : Hid (∀ W, Below wy.heap.size wy W → Calls Tryz.prog 23 #[.pointer (some ⟨ka, 0, none⟩), .int .i64 (j : Int)] W (GivesQ W IM)) := Lib.hid fun W hW => by
            have := rt_image (X10.after hW).jw.ra (j : Int)
            rwa [hi2.1, hIM] at this
          have cPe : Hid (∀ W, Below wy.heap.size wy W → Calls Tryz.prog 25 #[.pointer (some ⟨ka, 0, none⟩), .int .i64 (j : Int)] W fun e w' => e = .returned (.int .i64 0) ∧ Below W.heap.size W w') := Lib.hid fun W hW => by
            have := rt_pending (X10.after hW).jw.ra (j : Int)
            rwa [hi2.2] at this
          have hrw2 : Own wy w7.heap.size 9 (Xs j) (IM.map .string) := by rw [← hIM]; exact hrw
          obtain ⟨xa, xc, hxf⟩ := hrw2.reads.form
          rw [List.length_map] at hxf
          rw [hxf] at hcw hrw2
          have hd0 := Below.drew_ wy
          have HC : Hid (∀ W, Below wy.heap.size wy W → W.cell? ⟨gq, j, none⟩ = some (.slice xa IM.length xc)) := Lib.hid fun W hW => (hW.cell (p := ⟨gq, j, none⟩) (by have := hW10.o.lt.2; exact this)).trans hcw
          have HRw := Lib.hid hrw2.reads
          have HBy := Lib.hid (And.intro X10 hB)
          clear X10 hW10 hrw hIM hi2 hrw2 hxf hB
          go_upto_region 18 with (fail)
          refine wp_region_held_drew (S := fun W => W.cell? ⟨gq, j, none⟩ = some (.slice xa IM.length xc)) (by kernel_rfl) (HC.out _ hd0) (fun hHeld => ?_)
          refine wpAnyH_takeD (i := 0) (some 75) rfl (by kernel_rfl) (by kernel_rfl) (by kernel_rfl) rfl (fun _ _ _ h => h) (Or.inl ⟨by rfl, by rintro w hs1; first | rfl | (go_simp; done) | (go_simp; rfl)⟩) (by assumption) ?_
          simp only [Act.put, List.setIfInBounds_toArray, List.set_cons_zero, List.set_cons_succ]
          refine wpAnyH_takeD (i := 1) (some 76) rfl (by kernel_rfl) (by kernel_rfl) (by kernel_rfl) rfl (fun _ _ _ h => h) (Or.inl ⟨by rfl, by rintro w hs1; first | rfl | (go_simp; done) | (go_simp; rfl)⟩) (by assumption) ?_
          simp only [Act.put, List.setIfInBounds_toArray, List.set_cons_zero, List.set_cons_succ]
          refine wpAnyH_takeD (i := 3) (some 78) rfl (by kernel_rfl) (by kernel_rfl) (by kernel_rfl) rfl (fun _ _ _ h => h) (Or.inl ⟨by rfl, by rintro w hs1; first | rfl | (go_simp; done) | (go_simp; rfl)⟩) (by assumption) ?_
          simp only [Act.put, List.setIfInBounds_toArray, List.set_cons_zero, List.set_cons_succ]
          refine wpAnyH_takeD (i := 4) (some 79) rfl (by kernel_rfl) (by kernel_rfl) (by kernel_rfl) rfl (fun _ _ _ h => h) (Or.inl ⟨by rfl, by rintro w hs1; first | rfl | (go_simp; done) | (go_simp; rfl)⟩) (by assumption) ?_
          simp only [Act.put, List.setIfInBounds_toArray, List.set_cons_zero, List.set_cons_succ]
          refine wpAnyH_takeD (i := 5) (v := .pointer (some ⟨gq, j, none⟩)) (some 80) rfl (by kernel_rfl) (by kernel_rfl) (by kernel_rfl) rfl (fun _ _ _ h => h) (yieldsIf_index_run (by rfl) _ _ rfl rfl rfl (fun W => slc_at0 Tryz.underlying53 (fun W => by kernel_rfl) gq _ _ j hlt W)) (by assumption) ?_
          simp only [Act.put, List.setIfInBounds_toArray, List.set_cons_zero, List.set_cons_succ]
          refine wpAnyH_takeD (i := 6) (v := .slice xa IM.length xc) (some 81) rfl (by kernel_rfl) (by kernel_rfl) (by kernel_rfl) rfl (fun _ _ _ h => h) (yieldsIf_load_run (by rfl) _ rfl rfl (fun _ hs => cell_load (fun W => by kernel_rfl) hs)) (by assumption) ?_
          simp only [Act.put, List.setIfInBounds_toArray, List.set_cons_zero, List.set_cons_succ]
          refine wpAnyH_ready (rs := [2]) (by kernel_rfl) (by simp) ?_
          refine AllReadyH.cons rfl (fun K hK => ?_) AllReadyH.nil
          go_simp
          refine (cI.out _ hd0).mono ?_
          rintro e wa ⟨va, rfl, ba, oa⟩
          obtain ⟨ya, yc, hya⟩ := oa.reads.form
          rw [List.length_map] at hya
          subst hya
          have da := hd0.trans ba
          have cS := same02_any (.slice ya IM.length yc) (.slice xa IM.length xc) IM IM wa oa.reads (HRw.out.below da) (by omega)
          rw [decide_eq_true rfl] at cS
          clear oa
          refine hK.out _ _ (HC.out _ da) (fun hHeld => ?_)
          clear hK
          try simp only [Act.put, List.setIfInBounds_toArray, List.set_cons_zero, List.set_cons_succ]
          refine wpAnyH_ready (rs := [7]) (by kernel_rfl) (by simp) ?_
          refine AllReadyH.cons rfl (fun K hK => ?_) AllReadyH.nil
          go_simp
          refine cS.mono ?_
          rintro e wb ⟨rfl, bb⟩
          have d2 := da.trans (bb.mono da.size)
          clear cS ba bb
          refine hK.out _ _ (HC.out _ d2) (fun hHeld => ?_)
          clear hK
          try simp only [Act.put, List.setIfInBounds_toArray, List.set_cons_zero, List.set_cons_succ]
          refine wpAnyH_takeD (i := 8) (v := .bool false) (some 83) rfl (by kernel_rfl) (by kernel_rfl) (by kernel_rfl) rfl (fun _ _ _ h => h) (Or.inl ⟨by rfl, by rintro w hs1; first | rfl | (go_simp; done) | (go_simp; rfl)⟩) (by assumption) ?_
          simp only [Act.put, List.setIfInBounds_toArray, List.set_cons_zero, List.set_cons_succ]
          refine wpAnyH_takeD (i := 9) (v := .bool false) (some 84) rfl (by kernel_rfl) (by kernel_rfl) (by kernel_rfl) rfl (fun _ _ _ h => h) (Or.inl ⟨by rfl, by rintro w hs1; first | rfl | (go_simp; done) | (go_simp; rfl)⟩) (by assumption) ?_
          simp only [Act.put, List.setIfInBounds_toArray, List.set_cons_zero, List.set_cons_succ]
          refine wpAnyH_takeD (i := 10) (some 85) rfl (by kernel_rfl) (by kernel_rfl) (by kernel_rfl) rfl (fun _ _ _ h => h) (Or.inl ⟨by rfl, by rintro w hs1; first | rfl | (go_simp; done) | (go_simp; rfl)⟩) (by assumption) ?_
          simp only [Act.put, List.setIfInBounds_toArray, List.set_cons_zero, List.set_cons_succ]
          refine wpAnyH_takeD (i := 11) (some 86) rfl (by kernel_rfl) (by kernel_rfl) (by kernel_rfl) rfl (fun _ _ _ h => h) (Or.inl ⟨by rfl, by rintro w hs1; first | rfl | (go_simp; done) | (go_simp; rfl)⟩) (by assumption) ?_
          simp only [Act.put, List.setIfInBounds_toArray, List.set_cons_zero, List.set_cons_succ]
          refine wpAnyH_ready (rs := [12]) (by kernel_rfl) (by simp) ?_
          refine AllReadyH.cons rfl (fun K hK => ?_) AllReadyH.nil
          go_simp
          refine (cPe.out _ d2).mono ?_
          rintro e wc ⟨rfl, bc⟩
          have d3 := d2.trans (bc.mono d2.size)
          refine hK.out _ _ (HC.out _ d3) (fun hHeld => ?_)
          clear hK
          try simp only [Act.put, List.setIfInBounds_toArray, List.set_cons_zero, List.set_cons_succ]
          refine wpAnyH_takeD (i := 13) (v := .bool false) (some 88) rfl (by kernel_rfl) (by kernel_rfl) (by kernel_rfl) rfl (fun _ _ _ h => h) (Or.inl ⟨by rfl, by rintro w hs1; first | rfl | (go_simp; done) | (go_simp; rfl)⟩) (by assumption) ?_
          simp only [Act.put, List.setIfInBounds_toArray, List.set_cons_zero, List.set_cons_succ]
          refine wpAnyH_takeD (i := 14) (v := .bool false) (some 89) rfl (by kernel_rfl) (by kernel_rfl) (by kernel_rfl) rfl (fun _ _ _ h => h) (Or.inl ⟨by rfl, by rintro w hs1; first | rfl | (go_simp; done) | (go_simp; rfl)⟩) (by assumption) ?_
          simp only [Act.put, List.setIfInBounds_toArray, List.set_cons_zero, List.set_cons_succ]
          refine wpAnyH_done (by kernel_rfl) ?_ _
          have HBz := Lib.hid (HBy.out.2.trans ((d3.mono HBy.out.2.size)))
          clear hHeld cI cPe HC HRw HBy hcw
          go_wp2_with (fail)
          go_roundw
          case rel => exact ⟨j + 1, by omega, by go_num, HBz.out⟩
          case measure => simp [RowKit.intOf]; omega
        · obtain rfl : j = i := by omega
          have y1 : ¬ ((j : Int) < (k : Int) + (m : Int)) := by have := HNK.out.1; omega
          have cA2 := rt_acts X10.jw.ra
          rw [HA2.out] at cA2
          obtain ⟨⟨c0, c1, c2⟩, c3, c4⟩ := X10.cells
          have hfin : Hid (Below w.heap.size w wy) := Lib.hid (HBw.out.trans (X10.jw.ra.b.mono HBw.out.size))
          have hbl := body_len HG.out HR.out
          have hT64 : (allT l).length ≤ 64 := by have := hbl.2.1; have := HNK.out; omega
          obtain ⟨D, hD⟩ : ∃ D, (allT l).length = D := ⟨_, rfl⟩
          rw [hD] at hbl hT64
          have hAr := HA.out.2
          rw [hD] at hAr
          have e1 : ((l.length : Int) * (k : Int)) = (D : Int) := by rw [hbl.1]; push_cast; rfl
          obtain ⟨e4, e5⟩ := again_sums (k := k) (m := m) HNK.out.2.1 HNK.out.2.2.2.1 hT64 hAr
          clear X10 hB hbl hD hAr
          go_wp2_with (fail)
          refine cA2.mono ?_
          rintro e wz ⟨rfl, rfl⟩
          go_wp2_with (fail)
          go_ret
          refine ⟨?_, hfin.out⟩
          first | rfl | (simp; done)
end Go.Proofs.YtfadglcpapiklaaGreatDoor
