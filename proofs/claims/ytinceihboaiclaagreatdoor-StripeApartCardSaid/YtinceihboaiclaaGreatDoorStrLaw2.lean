/- stripe: StripeApart. -/
import Derived.Test.YtinceihboaiclaaGreatDoorStrCall
import Derived.Test.YtinceihboaiclaaGreatDoorLmat

namespace Go.Proofs.YtinceihboaiclaaGreatDoor
open Go.RowKit
set_option linter.unusedVariables false
set_option linter.unusedSimpArgs false
set_option maxRecDepth 100000

theorem apart_int {n sec k m : Nat} {B N N' id : Int} {d c : List ByteArray} (hg : gR (k : Int) (m : Int) B = true) (hn : n = k + m) (hs : gSectors (k : Int) (m : Int) B = (sec : Int)) (hi : 1 ≤ id ∧ id ≤ 65535) (hN0 : 0 ≤ N) (hN1 : N < gStripes (k : Int) (m : Int) B) (hM0 : 0 ≤ N') (hM1 : N' < gStripes (k : Int) (m : Int) B) (hd : dataB (k : Int) d = true) (hc : dataB (k : Int) c = true) :
    ∃ R1 R2, stW n (R00 sec) 3 (k : Int) (m : Int) B (allL n) N d = (R1, [], 0) ∧ stW n R1 id (k : Int) (m : Int) B (allL n) N' c = (R2, [], 0) ∧ stR n R2 id (k : Int) (m : Int) B (allL n) N' = (c, [], 0) ∧ (N ≠ N' → stR n R2 3 (k : Int) (m : Int) B (allL n) N = (d, [], 0)) ∧ (N = N' → id ≠ 3 → stR n R2 3 (k : Int) (m : Int) B (allL n) N = ([], allL n, 130)) ∧ (N = N' → id = 3 → stR n R2 3 (k : Int) (m : Int) B (allL n) N = (c, [], 0)) := by
  obtain ⟨i, rfl⟩ := Int.eq_ofNat_of_zero_le (show 0 ≤ id by omega)
  obtain ⟨R1, R2, h1, h2, h3, h4, h5, h6⟩ := apart_model (i := i) hg hn hs (by omega) hN0 hN1 hM0 hM1 hd hc
  exact ⟨R1, R2, h1, h2, h3, h4, fun e z => h5 e (by omega), fun e z => h6 e (by omega)⟩
set_option maxHeartbeats 2000000 in
theorem apart_walk (K0 M0 B0 : Int) (n0 : Int) (m0 : Int) (i0 : Int) (v1 : Value) (l1 : List Int) (v2 : Value) (l2 : List Int) (w : World) (ht : Tabs w) (hk : (-9223372036854775808 ≤ K0 ∧ K0 ≤ 9223372036854775807) ∧ (-9223372036854775808 ≤ M0 ∧ M0 ≤ 9223372036854775807) ∧ -9223372036854775808 ≤ B0 ∧ B0 ≤ 9223372036854775807) (bn0 : -9223372036854775808 ≤ n0 ∧ n0 ≤ 9223372036854775807) (bm0 : -9223372036854775808 ≤ m0 ∧ m0 ≤ 9223372036854775807) (bi0 : -9223372036854775808 ≤ i0 ∧ i0 ≤ 9223372036854775807) (Rl1 : Reads w v1 (l1.map (.int .i64))) (Fl1 : ∀ x ∈ l1, -9223372036854775808 ≤ x ∧ x ≤ 9223372036854775807) (Nl1 : l1.length ≤ 9223372036854775806) (Cl1 : capOk v1) (Rl2 : Reads w v2 (l2.map (.int .i64))) (Fl2 : ∀ x ∈ l2, -9223372036854775808 ≤ x ∧ x ≤ 9223372036854775807) (Nl2 : l2.length ≤ 9223372036854775806) (Cl2 : capOk v2) :
    Calls Tryz.prog 4 #[.agg #[.int .i64 K0, .int .i64 M0, .int .i64 B0], .int .i64 n0, .int .i64 m0, v1, v2, .int .i64 i0] w fun e w' => e = .returned (.bool true) ∧ Below w.heap.size w w' := by
  have hg := fit_right K0 M0 B0
  have cA := aw13_any
  have cF := fun W => fit7_any K0 M0 B0 W hk.1.1 hk.1.2 hk.2.1.1 hk.2.1.2 hk.2.2.1 hk.2.2.2
  have hkm := k_cases hg
  obtain ⟨k, hK⟩ := Int.eq_ofNat_of_zero_le (show 0 ≤ fK K0 by omega)
  obtain ⟨m, hM⟩ := Int.eq_ofNat_of_zero_le (show 0 ≤ fM M0 by omega)
  obtain ⟨B, hB⟩ : ∃ B, fB B0 = B := ⟨_, rfl⟩
  rw [hK, hM, hB] at cF hg hkm
  clear hK hM hB hk
  obtain ⟨sec, hsec⟩ := Int.eq_ofNat_of_zero_le (show 0 ≤ gSectors (k : Int) (m : Int) B by
    have := sectors_eq hg
    have hd := div_rng (K := (k : Int)) (B := B) (by omega) ⟨hkm.2.2.1, hkm.2.2.2⟩
    omega)
  have cRk := fun W => racks_any k m sec B W hg hsec
  have hk9 : k ≤ 4 ∧ m ≤ 3 ∧ 1 ≤ k ∧ 1 ≤ m := by omega
  obtain ⟨n, hn⟩ : ∃ n, k + m = n := ⟨_, rfl⟩
  obtain ⟨T, hT⟩ : ∃ T, gStripes (k : Int) (m : Int) B = T := ⟨_, rfl⟩
  have hTr : 1 ≤ T ∧ T ≤ 200 := by rw [← hT, stripes_eq hg]; exact div_rng (by omega) ⟨hkm.2.2.1, hkm.2.2.2⟩
  have CAll : Hid (∀ W, Calls Tryz.prog 14 #[.agg #[.int .i64 (k : Int), .int .i64 (m : Int), .int .i64 B]] W (GivesZ W (allL n))) := Lib.hid fun W => by rw [← hn]; exact all13_any k m B W (by omega) (by omega)
  have CT : Hid (∀ W, Calls Tryz.prog 11 #[.agg #[.int .i64 (k : Int), .int .i64 (m : Int), .int .i64 B]] W fun e w' => e = .returned (.int .i64 T) ∧ Below W.heap.size W w') := Lib.hid fun W => by rw [← hT]; exact rstripes_any _ _ _ W
  have CRk : Hid (∀ W, Calls Tryz.prog 9 #[.agg #[.int .i64 (k : Int), .int .i64 (m : Int), .int .i64 B]] W (RacksTo W n sec)) := Lib.hid fun W => by rw [← hn]; exact cRk W
  have HN7 : Hid (n ≤ 7 ∧ k ≤ 4 ∧ m ≤ 3 ∧ 1 ≤ k ∧ n = k + m) := Lib.hid (by omega)
  have HTR := Lib.hid hTr
  obtain ⟨N, hN⟩ : ∃ N, pk n0 T = N := ⟨_, rfl⟩
  obtain ⟨N', hN'⟩ : ∃ N', pk m0 T = N' := ⟨_, rfl⟩
  obtain ⟨q, hq⟩ : ∃ q, pk i0 65535 = q := ⟨_, rfl⟩
  have hNr : 0 ≤ N ∧ N < T := by rw [← hN]; exact pk_rng _ _ (by omega)
  have hNr' : 0 ≤ N' ∧ N' < T := by rw [← hN']; exact pk_rng _ _ (by omega)
  have hqr : 0 ≤ q ∧ q < 65535 := by rw [← hq]; exact pk_rng _ _ (by omega)
  have CPn : Hid (∀ W, Calls Tryz.prog 10 #[.int .i64 n0, .int .i64 T] W fun e w' => e = .returned (.int .i64 N) ∧ W = w') := Lib.hid fun W => by rw [← hN]; exact pick13_any n0 T W bn0.1 bn0.2 hTr.1 (by omega)
  have CPm : Hid (∀ W, Calls Tryz.prog 10 #[.int .i64 m0, .int .i64 T] W fun e w' => e = .returned (.int .i64 N') ∧ W = w') := Lib.hid fun W => by rw [← hN']; exact pick13_any m0 T W bm0.1 bm0.2 hTr.1 (by omega)
  have CPi : Hid (∀ W, Calls Tryz.prog 10 #[.int .i64 i0, .int .i64 65535] W fun e w' => e = .returned (.int .i64 q) ∧ W = w') := Lib.hid fun W => by rw [← hq]; exact pick13_any i0 65535 W bi0.1 bi0.2 (by omega) (by omega)
  obtain ⟨R1, R2, eW, eV, eR, eN, eE, eS⟩ := apart_int (n := n) (sec := sec) (d := dataL13 k l1) (c := dataL13 k l2) (id := 1 + q) hg hn.symm hsec (by omega) hNr.1 (by rw [hT]; exact hNr.2) hNr'.1 (by rw [hT]; exact hNr'.2) (dataL13_right k l1) (dataL13_right k l2)
  obtain ⟨Y, hY⟩ : ∃ Y, stR n R2 3 (k : Int) (m : Int) B (allL n) N = Y := ⟨_, rfl⟩
  rw [hY] at eN eE eS
  have o1 := stW_ok (K := (k : Int)) (M := (m : Int)) (B := B) (id := 3) (N := N) (l := allL n) (data := dataL13 k l1) (rok_00 n sec)
  rw [eW, allL_len, Nat.zero_add] at o1
  have o2 := stW_ok (K := (k : Int)) (M := (m : Int)) (B := B) (id := 1 + q) (N := N') (l := allL n) (data := dataL13 k l2) o1
  rw [eV, allL_len] at o2
  have HM := Lib.hid (show _ ∧ _ ∧ _ ∧ _ ∧ ROk n R1 7 ∧ ROk n R2 14 from ⟨eW, eV, eR, hY, o1.le (by omega), o2.le (by omega)⟩)
  have HE := Lib.hid (show _ ∧ _ ∧ _ from ⟨eN, eE, eS⟩)
  have hqw : IntKind.i64.wrap (1 + q) = 1 + q := IntWalk.i64_in _ (by omega)
  have hd1 := Lib.hid (dataL13_len k l1)
  have hd2 := Lib.hid (dataL13_len k l2)
  have f1 := Lib.hid (fits13 (show k ≤ 1000 by omega) l1)
  have f2 := Lib.hid (fits13 (show k ≤ 1000 by omega) l2)
  have HD1 : Hid (∀ W, Reads W v1 (l1.map (.int .i64)) → Calls Tryz.prog 12 #[.agg #[.int .i64 (k : Int), .int .i64 (m : Int), .int .i64 B], v1] W (GivesT W (dataL13 k l1))) := Lib.hid fun W hW => data13_any k m B _ l1 W (by omega) hW Fl1 (by omega)
  have HD2 : Hid (∀ W, Reads W v2 (l2.map (.int .i64)) → Calls Tryz.prog 12 #[.agg #[.int .i64 (k : Int), .int .i64 (m : Int), .int .i64 B], v2] W (GivesT W (dataL13 k l2))) := Lib.hid fun W hW => data13_any k m B _ l2 W (by omega) hW Fl2 (by omega)
  clear hN hN' hq eW eV eR eN eE eS hY o1 o2
  generalize dataL13 k l1 = D at *
  generalize dataL13 k l2 = C at *
  clear cRk hsec hkm hg hn hT hk9 hTr
  obtain ⟨g0, hg0⟩ : ∃ g0, w.heap.size = g0 := ⟨_, rfl⟩
  obtain ⟨W0, hW0⟩ : ∃ W0, W0 = w.alloc (.cells #[.int .i64 K0, .int .i64 M0, .int .i64 B0] 23) := ⟨_, rfl⟩
  have hb0 : Below w.heap.size w W0 := by rw [hW0]; exact (Below.refl _ _).alloc (Nat.le_refl _) _
  have hr0 : W0.heap[g0]? = some (.cells #[.int .i64 K0, .int .i64 M0, .int .i64 B0] 23 (0, 0)) := by rw [hW0, ← hg0]; exact heap_alloc_new _ _
  have hr0l := (Array.getElem?_eq_some_iff.1 hr0).1
  have ht0 := ht.below hb0 ht.two
  have HT2 := Lib.hid ht.two
  have HB0 := Lib.hid hb0
  have HG0 := Lib.hid hg0
  obtain ⟨pal1, pcl1, hvl1, _⟩ := Reads.items Rl1
  subst hvl1
  have HRl1 := Lib.hid Rl1
  have HFl1 := Lib.hid Fl1
  clear Rl1 Fl1
  obtain ⟨pal2, pcl2, hvl2, _⟩ := Reads.items Rl2
  subst hvl2
  have HRl2 := Lib.hid Rl2
  have HFl2 := Lib.hid Fl2
  clear Rl2 Fl2
  clear ht hb0
  go_enter Tryz.func4, Tryz.ntmps4
  go_wp2_with (fail)
  rw [show w.alloc (.cells #[.int .i64 K0, .int .i64 M0, .int .i64 B0] 23) = W0 from hW0.symm]
  clear hW0
  refine (cA W0 ht0).mono ?_
  rintro e w1 ⟨rfl, b1⟩
  have r0 : w1.cell? ⟨g0, 0, none⟩ = some (.int .i64 K0) := heap_cell ((b1.block g0 hr0l).trans hr0) rfl
  have r1 : w1.cell? ⟨g0, 1, none⟩ = some (.int .i64 M0) := heap_cell ((b1.block g0 hr0l).trans hr0) rfl
  have r2 : w1.cell? ⟨g0, 2, none⟩ = some (.int .i64 B0) := heap_cell ((b1.block g0 hr0l).trans hr0) rfl
  have ht1 := ht0.below b1 ht0.two
  have HB1 := Lib.hid (HB0.out.trans (b1.mono HB0.out.size))
  clear cA b1 ht0 hr0 hr0l
  go_wp2_with (fail)
  refine (cF w1).mono ?_
  rintro e w2 ⟨rfl, b2⟩
  have ht2 := ht1.below b2 ht1.two
  obtain ⟨W3, hW3⟩ : ∃ W3, W3 = w2.alloc (.cells #[.int .i64 (k : Int), .int .i64 (m : Int), .int .i64 B] 23) := ⟨_, rfl⟩
  obtain ⟨g, hg⟩ : ∃ g, w2.heap.size = g := ⟨_, rfl⟩
  have hb3 : Below w2.heap.size w2 W3 := by rw [hW3]; exact (Below.refl _ _).alloc (Nat.le_refl _) _
  have hg3 : W3.heap[g]? = some (.cells #[.int .i64 (k : Int), .int .i64 (m : Int), .int .i64 B] 23 (0, 0)) := by rw [hW3, ← hg]; exact heap_alloc_new _ _
  have hgl := (Array.getElem?_eq_some_iff.1 hg3).1
  have ht3 := ht2.below hb3 ht2.two
  have HB3 := Lib.hid (HB1.out.trans ((b2.trans (hb3.mono b2.size)).mono HB1.out.size))
  have e0 : W3.cell? ⟨g, 0, none⟩ = some (.int .i64 (k : Int)) := heap_cell hg3 rfl
  have e1 : W3.cell? ⟨g, 1, none⟩ = some (.int .i64 (m : Int)) := heap_cell hg3 rfl
  have e2 : W3.cell? ⟨g, 2, none⟩ = some (.int .i64 B) := heap_cell hg3 rfl
  clear cF b2 ht1 ht2 r0 r1 r2 hb3 HB1 HB0
  go_wp2_with (fail)
  rw [show w2.alloc (.cells #[.int .i64 (k : Int), .int .i64 (m : Int), .int .i64 B] 23) = W3 from hW3.symm]
  clear hW3
  refine (CRk.out W3).mono ?_
  rintro e w4 ⟨S4, ka, wq, Sb, kb, rfl, a4, _, _, _⟩
  have h4 : SW W3 S4 w4 ka n g (k : Int) (m : Int) B (R00 sec) := ⟨a4, (a4.b.block g hgl).trans hg3, fun z => by have := a4.f g z; omega, ht3.below a4.b ht3.two, ht3.two⟩
  have H4 := Lib.hid h4
  clear a4 h4 hg3 hgl ht3 e0 e1 e2 hg CRk
  obtain ⟨c0, c1, c2⟩ := H4.out.cells
  go_wp2_with (fail)
  refine (CT.out w4).mono ?_
  rintro e w5 ⟨rfl, b5⟩
  have H5 := Lib.hid (H4.out.after b5)
  clear H4 b5 
  clear c0 c1 c2
  go_wp2_with (fail)
  refine (CPn.out w5).mono ?_
  rintro e w5x ⟨rfl, rfl⟩
  obtain ⟨c0, c1, c2⟩ := H5.out.cells
  go_wp2_with (fail)
  refine (CT.out w5).mono ?_
  rintro e w6 ⟨rfl, b6⟩
  have H6 := Lib.hid (H5.out.after b6)
  clear H5 b6 
  clear c0 c1 c2
  go_wp2_with (fail)
  refine (CPm.out w6).mono ?_
  rintro e w6x ⟨rfl, rfl⟩
  go_wp2_with (fail)
  refine (CPi.out w6).mono ?_
  rintro e w6y ⟨rfl, rfl⟩
  have hw6 : Below w.heap.size w w6 := HB3.out.trans (H6.out.ra.b.mono HB3.out.size)
  have cD1 := HD1.out w6 (HRl1.out.below hw6)
  clear hw6 CPn CPm CPi CT HD1
  obtain ⟨c0, c1, c2⟩ := H6.out.cells
  go_wp2_with (fail)
  refine cD1.mono ?_
  rintro e w7 ⟨u7, rfl, o7, b7⟩
  obtain ⟨x7, y7, hf7⟩ := o7.reads.form
  rw [List.length_map] at hf7
  subst hf7
  have D_7 := Lib.hid (Lst.new o7 fun q hq => H6.out.ra.lt q hq)
  clear c0 c1 c2 cD1 o7
  have H7 := Lib.hid (H6.out.after b7)
  clear H6 b7 
  have hw7 : Below w.heap.size w w7 := HB3.out.trans (H7.out.ra.b.mono HB3.out.size)
  have cD2 := HD2.out w7 (HRl2.out.below hw7)
  clear hw7 HD2
  obtain ⟨c0, c1, c2⟩ := H7.out.cells
  go_wp2_with (fail)
  refine cD2.mono ?_
  rintro e w8 ⟨u8, rfl, o8, b8⟩
  obtain ⟨x8, y8, hf8⟩ := o8.reads.form
  rw [List.length_map] at hf8
  subst hf8
  have C_8 := Lib.hid (Lst.new o8 fun q hq => H7.out.ra.lt q hq)
  clear c0 c1 c2 cD2 o8
  have H8 := Lib.hid (H7.out.after b8)
  have D_8 := Lib.hid (D_7.out.below b8)
  clear H7 b8 D_7
  go_upto_region 11 with (fail)
  refine wp_region_held_drew (S := fun W => W.heap[g]? = some (.cells #[.int .i64 (k : Int), .int .i64 (m : Int), .int .i64 B] 23 (0, 0))) (by kernel_rfl) (H8.out.after (Below.drewZ w8)).gb (fun hHeld => ?_)
  refine wpAnyH_takeD (i := 0) (some 61) rfl (by kernel_rfl) (by kernel_rfl) (by kernel_rfl) rfl (fun _ _ _ h => h) (Or.inl ⟨by rfl, by rintro w hs; first | rfl | (go_simp; done) | (go_simp; rfl)⟩) (by assumption) ?_
  simp only [Act.put, List.setIfInBounds_toArray, List.set_cons_zero, List.set_cons_succ]
  refine wpAnyH_takeD (i := 1) (v := .agg #[.int .i64 (k : Int), .int .i64 (m : Int), .int .i64 B]) (some 62) rfl (by kernel_rfl) (by kernel_rfl) (by kernel_rfl) rfl (fun _ _ _ h => h) (yieldsIf_load_run (by rfl) _ rfl rfl (fun _ hs => geo_load hs)) (by assumption) ?_
  simp only [Act.put, List.setIfInBounds_toArray, List.set_cons_zero, List.set_cons_succ]
  refine wpAnyH_takeD (i := 2) (v := .agg #[.int .i64 (k : Int), .int .i64 (m : Int), .int .i64 B]) (some 63) rfl (by kernel_rfl) (by kernel_rfl) (by kernel_rfl) rfl (fun _ _ _ h => h) (yieldsIf_load_run (by rfl) _ rfl rfl (fun _ hs => geo_load hs)) (by assumption) ?_
  simp only [Act.put, List.setIfInBounds_toArray, List.set_cons_zero, List.set_cons_succ]
  refine wpAnyH_takeD (i := 4) (some 65) rfl (by kernel_rfl) (by kernel_rfl) (by kernel_rfl) rfl (fun _ _ _ h => h) (Or.inl ⟨by rfl, by rintro w hs; first | rfl | (go_simp; done) | (go_simp; rfl)⟩) (by assumption) ?_
  simp only [Act.put, List.setIfInBounds_toArray, List.set_cons_zero, List.set_cons_succ]
  refine wpAnyH_takeD (i := 5) (some 66) rfl (by kernel_rfl) (by kernel_rfl) (by kernel_rfl) rfl (fun _ _ _ h => h) (Or.inl ⟨by rfl, by rintro w hs; first | rfl | (go_simp; done) | (go_simp; rfl)⟩) (by assumption) ?_
  simp only [Act.put, List.setIfInBounds_toArray, List.set_cons_zero, List.set_cons_succ]
  refine wpAnyH_takeD (i := 6) (v := .agg #[.int .i64 N, .slice x7 D.length y7]) (some 67) rfl (by kernel_rfl) (by kernel_rfl) (by kernel_rfl) rfl (fun _ _ _ h => h) (Or.inl ⟨by rfl, by rintro w hs; first | rfl | (go_simp; done) | (go_simp; rfl)⟩) (by assumption) ?_
  simp only [Act.put, List.setIfInBounds_toArray, List.set_cons_zero, List.set_cons_succ]
  refine wpAnyH_ready (rs := [3]) (by kernel_rfl) (by simp) ?_
  refine AllReadyH.cons rfl (fun K hK => ?_) AllReadyH.nil
  go_simp
  refine (CAll.out w8.drew).mono ?_
  rintro e z8 ⟨va8, rfl, oa8, ba8⟩
  have bb8 := (Below.drewZ w8).trans ba8
  have G8 := H8.out.after bb8
  refine hK.out _ _ G8.gb (fun hHeld => ?_)
  clear hK
  try simp only [Act.put, List.setIfInBounds_toArray, List.set_cons_zero, List.set_cons_succ]
  have cW := st_write G8 (rok_00 n sec) (by decide) HM.out.1 (Lst.new oa8 fun q hq => H8.out.ra.lt q hq) (by rw [allL_len]; have := HN7.out.1; omega) (D_8.out.below bb8) f1.out (by have := HN7.out.2.1; have := hd1.out; have := hd2.out; omega)
  refine wpAnyH_ready (rs := [7]) (by kernel_rfl) (by simp) ?_
  refine AllReadyH.cons rfl (fun K hK => ?_) AllReadyH.nil
  go_simp
  refine cW.mono ?_
  rintro e w9 ⟨vw9, rfl, S9, s9, a9, ow9, nw9⟩
  have h9 := G8.stp s9 a9
  refine hK.out _ _ h9.gb (fun hHeld => ?_)
  clear hK
  try simp only [Act.put, List.setIfInBounds_toArray, List.set_cons_zero, List.set_cons_succ]
  refine wpAnyH_takeD (i := 8) (v := .tuple #[vw9, .int .i64 0]) (some 60) rfl (by kernel_rfl) (by kernel_rfl) (by kernel_rfl) rfl (fun _ _ _ h => h) (Or.inl ⟨by rfl, by rintro w hs; first | rfl | (go_simp; done) | (go_simp; rfl)⟩) (by assumption) ?_
  simp only [Act.put, List.setIfInBounds_toArray, List.set_cons_zero, List.set_cons_succ]
  refine wpAnyH_takeD (i := 9) (v := vw9) (some 69) rfl (by kernel_rfl) (by kernel_rfl) (by kernel_rfl) rfl (fun _ _ _ h => h) (Or.inl ⟨by rfl, by rintro w hs; first | rfl | (go_simp; done) | (go_simp; rfl)⟩) (by assumption) ?_
  simp only [Act.put, List.setIfInBounds_toArray, List.set_cons_zero, List.set_cons_succ]
  refine wpAnyH_takeD (i := 10) (v := .int .i64 0) (some 70) rfl (by kernel_rfl) (by kernel_rfl) (by kernel_rfl) rfl (fun _ _ _ h => h) (Or.inl ⟨by rfl, by rintro w hs; first | rfl | (go_simp; done) | (go_simp; rfl)⟩) (by assumption) ?_
  simp only [Act.put, List.setIfInBounds_toArray, List.set_cons_zero, List.set_cons_succ]
  refine wpAnyH_takeD (i := 11) (v := vw9) (some 19) rfl (by kernel_rfl) (by kernel_rfl) (by kernel_rfl) rfl (fun _ _ _ h => h) (Or.inl ⟨by rfl, by rintro w hs; first | rfl | (go_simp; done) | (go_simp; rfl)⟩) (by assumption) ?_
  simp only [Act.put, List.setIfInBounds_toArray, List.set_cons_zero, List.set_cons_succ]
  refine wpAnyH_takeD (i := 12) (v := .int .i64 0) (some 20) rfl (by kernel_rfl) (by kernel_rfl) (by kernel_rfl) rfl (fun _ _ _ h => h) (Or.inl ⟨by rfl, by rintro w hs; first | rfl | (go_simp; done) | (go_simp; rfl)⟩) (by assumption) ?_
  simp only [Act.put, List.setIfInBounds_toArray, List.set_cons_zero, List.set_cons_succ]
  refine wpAnyH_done (by kernel_rfl) ?_ _
  have H9 := Lib.hid h9
  have D_9 := Lib.hid ((D_8.out.below bb8).stp s9)
  have C_9 := Lib.hid ((C_8.out.below bb8).stp s9)
  clear hHeld cW h9 s9 a9 ow9 nw9 G8 bb8 ba8 oa8 H8 D_8 C_8
  go_upto_region 12 with (fail)
  refine wp_region_held_drew (S := fun W => W.heap[g]? = some (.cells #[.int .i64 (k : Int), .int .i64 (m : Int), .int .i64 B] 23 (0, 0))) (by kernel_rfl) (H9.out.after (Below.drewZ w9)).gb (fun hHeld => ?_)
  refine wpAnyH_takeD (i := 0) (some 72) rfl (by kernel_rfl) (by kernel_rfl) (by kernel_rfl) rfl (fun _ _ _ h => h) (Or.inl ⟨by rfl, by rintro w hs; first | rfl | (go_simp; done) | (go_simp; rfl)⟩) (by assumption) ?_
  simp only [Act.put, List.setIfInBounds_toArray, List.set_cons_zero, List.set_cons_succ]
  refine wpAnyH_takeD (i := 1) (some 73) rfl (by kernel_rfl) (by kernel_rfl) (by kernel_rfl) rfl (fun _ _ _ h => h) (Or.inl ⟨by rfl, by rintro w hs; first | rfl | (go_simp; done) | (go_simp; rfl)⟩) (by assumption) ?_
  simp only [Act.put, List.setIfInBounds_toArray, List.set_cons_zero, List.set_cons_succ]
  refine wpAnyH_takeD (i := 2) (v := .agg #[.int .i64 (k : Int), .int .i64 (m : Int), .int .i64 B]) (some 74) rfl (by kernel_rfl) (by kernel_rfl) (by kernel_rfl) rfl (fun _ _ _ h => h) (yieldsIf_load_run (by rfl) _ rfl rfl (fun _ hs => geo_load hs)) (by assumption) ?_
  simp only [Act.put, List.setIfInBounds_toArray, List.set_cons_zero, List.set_cons_succ]
  refine wpAnyH_takeD (i := 3) (v := .agg #[.int .i64 (k : Int), .int .i64 (m : Int), .int .i64 B]) (some 75) rfl (by kernel_rfl) (by kernel_rfl) (by kernel_rfl) rfl (fun _ _ _ h => h) (yieldsIf_load_run (by rfl) _ rfl rfl (fun _ hs => geo_load hs)) (by assumption) ?_
  simp only [Act.put, List.setIfInBounds_toArray, List.set_cons_zero, List.set_cons_succ]
  refine wpAnyH_takeD (i := 5) (some 77) rfl (by kernel_rfl) (by kernel_rfl) (by kernel_rfl) rfl (fun _ _ _ h => h) (Or.inl ⟨by rfl, by rintro w hs; first | rfl | (go_simp; done) | (go_simp; rfl)⟩) (by assumption) ?_
  simp only [Act.put, List.setIfInBounds_toArray, List.set_cons_zero, List.set_cons_succ]
  refine wpAnyH_takeD (i := 6) (some 78) rfl (by kernel_rfl) (by kernel_rfl) (by kernel_rfl) rfl (fun _ _ _ h => h) (Or.inl ⟨by rfl, by rintro w hs; first | rfl | (go_simp; done) | (go_simp; rfl)⟩) (by assumption) ?_
  simp only [Act.put, List.setIfInBounds_toArray, List.set_cons_zero, List.set_cons_succ]
  refine wpAnyH_takeD (i := 7) (v := .agg #[.int .i64 N', .slice x8 C.length y8]) (some 79) rfl (by kernel_rfl) (by kernel_rfl) (by kernel_rfl) rfl (fun _ _ _ h => h) (Or.inl ⟨by rfl, by rintro w hs; first | rfl | (go_simp; done) | (go_simp; rfl)⟩) (by assumption) ?_
  simp only [Act.put, List.setIfInBounds_toArray, List.set_cons_zero, List.set_cons_succ]
  refine wpAnyH_ready (rs := [4]) (by kernel_rfl) (by simp) ?_
  refine AllReadyH.cons rfl (fun K hK => ?_) AllReadyH.nil
  go_simp
  refine (CAll.out w9.drew).mono ?_
  rintro e z9 ⟨va9, rfl, oa9, ba9⟩
  have bb9 := (Below.drewZ w9).trans ba9
  have G9 := H9.out.after bb9
  refine hK.out _ _ G9.gb (fun hHeld => ?_)
  clear hK
  try simp only [Act.put, List.setIfInBounds_toArray, List.set_cons_zero, List.set_cons_succ]
  have cW := st_write G9 HM.out.2.2.2.2.1 (by decide) HM.out.2.1 (Lst.new oa9 fun q hq => H9.out.ra.lt q hq) (by rw [allL_len]; have := HN7.out.1; omega) (C_9.out.below bb9) f2.out (by have := HN7.out.2.1; have := hd1.out; have := hd2.out; omega)
  refine wpAnyH_ready (rs := [8]) (by kernel_rfl) (by simp) ?_
  refine AllReadyH.cons rfl (fun K hK => ?_) AllReadyH.nil
  go_simp
  refine cW.mono ?_
  rintro e w10 ⟨vw10, rfl, S10, s10, a10, ow10, nw10⟩
  have h10 := G9.stp s10 a10
  refine hK.out _ _ h10.gb (fun hHeld => ?_)
  clear hK
  try simp only [Act.put, List.setIfInBounds_toArray, List.set_cons_zero, List.set_cons_succ]
  refine wpAnyH_takeD (i := 9) (v := .tuple #[vw10, .int .i64 0]) (some 71) rfl (by kernel_rfl) (by kernel_rfl) (by kernel_rfl) rfl (fun _ _ _ h => h) (Or.inl ⟨by rfl, by rintro w hs; first | rfl | (go_simp; done) | (go_simp; rfl)⟩) (by assumption) ?_
  simp only [Act.put, List.setIfInBounds_toArray, List.set_cons_zero, List.set_cons_succ]
  refine wpAnyH_takeD (i := 10) (v := vw10) (some 81) rfl (by kernel_rfl) (by kernel_rfl) (by kernel_rfl) rfl (fun _ _ _ h => h) (Or.inl ⟨by rfl, by rintro w hs; first | rfl | (go_simp; done) | (go_simp; rfl)⟩) (by assumption) ?_
  simp only [Act.put, List.setIfInBounds_toArray, List.set_cons_zero, List.set_cons_succ]
  refine wpAnyH_takeD (i := 11) (v := .int .i64 0) (some 82) rfl (by kernel_rfl) (by kernel_rfl) (by kernel_rfl) rfl (fun _ _ _ h => h) (Or.inl ⟨by rfl, by rintro w hs; first | rfl | (go_simp; done) | (go_simp; rfl)⟩) (by assumption) ?_
  simp only [Act.put, List.setIfInBounds_toArray, List.set_cons_zero, List.set_cons_succ]
  refine wpAnyH_takeD (i := 12) (v := vw10) (some 21) rfl (by kernel_rfl) (by kernel_rfl) (by kernel_rfl) rfl (fun _ _ _ h => h) (Or.inl ⟨by rfl, by rintro w hs; first | rfl | (go_simp; done) | (go_simp; rfl)⟩) (by assumption) ?_
  simp only [Act.put, List.setIfInBounds_toArray, List.set_cons_zero, List.set_cons_succ]
  refine wpAnyH_takeD (i := 13) (v := .int .i64 0) (some 22) rfl (by kernel_rfl) (by kernel_rfl) (by kernel_rfl) rfl (fun _ _ _ h => h) (Or.inl ⟨by rfl, by rintro w hs; first | rfl | (go_simp; done) | (go_simp; rfl)⟩) (by assumption) ?_
  simp only [Act.put, List.setIfInBounds_toArray, List.set_cons_zero, List.set_cons_succ]
  refine wpAnyH_done (by kernel_rfl) ?_ _
  have H10 := Lib.hid h10
  have D_10 := Lib.hid ((D_9.out.below bb9).stp s10)
  have C_10 := Lib.hid ((C_9.out.below bb9).stp s10)
  clear hHeld cW h10 s10 a10 ow10 nw10 G9 bb9 ba9 oa9 H9 D_9 C_9
  go_upto_region 13 with (fail)
  refine wp_region_held_drew (S := fun W => W.heap[g]? = some (.cells #[.int .i64 (k : Int), .int .i64 (m : Int), .int .i64 B] 23 (0, 0))) (by kernel_rfl) (H10.out.after (Below.drewZ w10)).gb (fun hHeld => ?_)
  refine wpAnyH_takeD (i := 0) (some 84) rfl (by kernel_rfl) (by kernel_rfl) (by kernel_rfl) rfl (fun _ _ _ h => h) (Or.inl ⟨by rfl, by rintro w hs; first | rfl | (go_simp; done) | (go_simp; rfl)⟩) (by assumption) ?_
  simp only [Act.put, List.setIfInBounds_toArray, List.set_cons_zero, List.set_cons_succ]
  refine wpAnyH_takeD (i := 1) (v := .agg #[.int .i64 (k : Int), .int .i64 (m : Int), .int .i64 B]) (some 85) rfl (by kernel_rfl) (by kernel_rfl) (by kernel_rfl) rfl (fun _ _ _ h => h) (yieldsIf_load_run (by rfl) _ rfl rfl (fun _ hs => geo_load hs)) (by assumption) ?_
  simp only [Act.put, List.setIfInBounds_toArray, List.set_cons_zero, List.set_cons_succ]
  refine wpAnyH_takeD (i := 2) (v := .agg #[.int .i64 (k : Int), .int .i64 (m : Int), .int .i64 B]) (some 86) rfl (by kernel_rfl) (by kernel_rfl) (by kernel_rfl) rfl (fun _ _ _ h => h) (yieldsIf_load_run (by rfl) _ rfl rfl (fun _ hs => geo_load hs)) (by assumption) ?_
  simp only [Act.put, List.setIfInBounds_toArray, List.set_cons_zero, List.set_cons_succ]
  refine wpAnyH_takeD (i := 4) (some 88) rfl (by kernel_rfl) (by kernel_rfl) (by kernel_rfl) rfl (fun _ _ _ h => h) (Or.inl ⟨by rfl, by rintro w hs; first | rfl | (go_simp; done) | (go_simp; rfl)⟩) (by assumption) ?_
  simp only [Act.put, List.setIfInBounds_toArray, List.set_cons_zero, List.set_cons_succ]
  refine wpAnyH_ready (rs := [3]) (by kernel_rfl) (by simp) ?_
  refine AllReadyH.cons rfl (fun K hK => ?_) AllReadyH.nil
  go_simp
  refine (CAll.out w10.drew).mono ?_
  rintro e z10 ⟨va10, rfl, oa10, ba10⟩
  have bb10 := (Below.drewZ w10).trans ba10
  have G10 := H10.out.after bb10
  refine hK.out _ _ G10.gb (fun hHeld => ?_)
  clear hK
  try simp only [Act.put, List.setIfInBounds_toArray, List.set_cons_zero, List.set_cons_succ]
  have cR := st_read G10 HM.out.2.2.2.2.2 (by decide) HM.out.2.2.2.1 (Lst.new oa10 fun q hq => H10.out.ra.lt q hq) (by rw [allL_len]; have := HN7.out.1; omega)
  refine wpAnyH_ready (rs := [5]) (by kernel_rfl) (by simp) ?_
  refine AllReadyH.cons rfl (fun K hK => ?_) AllReadyH.nil
  go_simp
  refine cR.mono ?_
  rintro e w11 ⟨vd11, vb11, rfl, od11, ob11, bz11⟩
  obtain ⟨x11, y11, hf11⟩ := od11.reads.form
  rw [show (tx Y.1).length = Y.1.length from List.length_map ..] at hf11
  subst hf11
  have h11 := G10.after bz11
  refine hK.out _ _ h11.gb (fun hHeld => ?_)
  clear hK
  try simp only [Act.put, List.setIfInBounds_toArray, List.set_cons_zero, List.set_cons_succ]
  refine wpAnyH_takeD (i := 6) (v := .tuple #[.slice x11 Y.1.length y11, vb11, .int .i64 Y.2.2]) (some 83) rfl (by kernel_rfl) (by kernel_rfl) (by kernel_rfl) rfl (fun _ _ _ h => h) (Or.inl ⟨by rfl, by rintro w hs; first | rfl | (go_simp; done) | (go_simp; rfl)⟩) (by assumption) ?_
  simp only [Act.put, List.setIfInBounds_toArray, List.set_cons_zero, List.set_cons_succ]
  refine wpAnyH_takeD (i := 7) (v := .slice x11 Y.1.length y11) (some 90) rfl (by kernel_rfl) (by kernel_rfl) (by kernel_rfl) rfl (fun _ _ _ h => h) (Or.inl ⟨by rfl, by rintro w hs; first | rfl | (go_simp; done) | (go_simp; rfl)⟩) (by assumption) ?_
  simp only [Act.put, List.setIfInBounds_toArray, List.set_cons_zero, List.set_cons_succ]
  refine wpAnyH_takeD (i := 8) (v := vb11) (some 91) rfl (by kernel_rfl) (by kernel_rfl) (by kernel_rfl) rfl (fun _ _ _ h => h) (Or.inl ⟨by rfl, by rintro w hs; first | rfl | (go_simp; done) | (go_simp; rfl)⟩) (by assumption) ?_
  simp only [Act.put, List.setIfInBounds_toArray, List.set_cons_zero, List.set_cons_succ]
  refine wpAnyH_takeD (i := 9) (v := .int .i64 Y.2.2) (some 92) rfl (by kernel_rfl) (by kernel_rfl) (by kernel_rfl) rfl (fun _ _ _ h => h) (Or.inl ⟨by rfl, by rintro w hs; first | rfl | (go_simp; done) | (go_simp; rfl)⟩) (by assumption) ?_
  simp only [Act.put, List.setIfInBounds_toArray, List.set_cons_zero, List.set_cons_succ]
  refine wpAnyH_takeD (i := 10) (v := .slice x11 Y.1.length y11) (some 23) rfl (by kernel_rfl) (by kernel_rfl) (by kernel_rfl) rfl (fun _ _ _ h => h) (Or.inl ⟨by rfl, by rintro w hs; first | rfl | (go_simp; done) | (go_simp; rfl)⟩) (by assumption) ?_
  simp only [Act.put, List.setIfInBounds_toArray, List.set_cons_zero, List.set_cons_succ]
  refine wpAnyH_takeD (i := 11) (v := vb11) (some 24) rfl (by kernel_rfl) (by kernel_rfl) (by kernel_rfl) rfl (fun _ _ _ h => h) (Or.inl ⟨by rfl, by rintro w hs; first | rfl | (go_simp; done) | (go_simp; rfl)⟩) (by assumption) ?_
  simp only [Act.put, List.setIfInBounds_toArray, List.set_cons_zero, List.set_cons_succ]
  refine wpAnyH_takeD (i := 12) (v := .int .i64 Y.2.2) (some 25) rfl (by kernel_rfl) (by kernel_rfl) (by kernel_rfl) rfl (fun _ _ _ h => h) (Or.inl ⟨by rfl, by rintro w hs; first | rfl | (go_simp; done) | (go_simp; rfl)⟩) (by assumption) ?_
  simp only [Act.put, List.setIfInBounds_toArray, List.set_cons_zero, List.set_cons_succ]
  refine wpAnyH_done (by kernel_rfl) ?_ _
  have H11 := Lib.hid h11
  have bt11 := bb10.trans (bz11.mono bb10.size)
  have D_11 := Lib.hid (D_10.out.below bt11)
  have C_11 := Lib.hid (C_10.out.below bt11)
  have X_11 := Lib.hid (Lst.new od11 fun q hq => G10.ra.lt q hq)
  clear hHeld cR h11 od11 ob11 G10 bb10 ba10 oa10 bz11 bt11 H10 D_10 C_10
  go_upto_region 14 with (fail)
  refine wp_region_held_drew (S := fun W => W.heap[g]? = some (.cells #[.int .i64 (k : Int), .int .i64 (m : Int), .int .i64 B] 23 (0, 0))) (by kernel_rfl) (H11.out.after (Below.drewZ w11)).gb (fun hHeld => ?_)
  refine wpAnyH_takeD (i := 0) (some 94) rfl (by kernel_rfl) (by kernel_rfl) (by kernel_rfl) rfl (fun _ _ _ h => h) (Or.inl ⟨by rfl, by rintro w hs; first | rfl | (go_simp; done) | (go_simp; rfl)⟩) (by assumption) ?_
  simp only [Act.put, List.setIfInBounds_toArray, List.set_cons_zero, List.set_cons_succ]
  refine wpAnyH_takeD (i := 1) (some 95) rfl (by kernel_rfl) (by kernel_rfl) (by kernel_rfl) rfl (fun _ _ _ h => h) (Or.inl ⟨by rfl, by rintro w hs; first | rfl | (go_simp; done) | (go_simp; rfl)⟩) (by assumption) ?_
  simp only [Act.put, List.setIfInBounds_toArray, List.set_cons_zero, List.set_cons_succ]
  refine wpAnyH_takeD (i := 2) (v := .agg #[.int .i64 (k : Int), .int .i64 (m : Int), .int .i64 B]) (some 96) rfl (by kernel_rfl) (by kernel_rfl) (by kernel_rfl) rfl (fun _ _ _ h => h) (yieldsIf_load_run (by rfl) _ rfl rfl (fun _ hs => geo_load hs)) (by assumption) ?_
  simp only [Act.put, List.setIfInBounds_toArray, List.set_cons_zero, List.set_cons_succ]
  refine wpAnyH_takeD (i := 3) (v := .agg #[.int .i64 (k : Int), .int .i64 (m : Int), .int .i64 B]) (some 97) rfl (by kernel_rfl) (by kernel_rfl) (by kernel_rfl) rfl (fun _ _ _ h => h) (yieldsIf_load_run (by rfl) _ rfl rfl (fun _ hs => geo_load hs)) (by assumption) ?_
  simp only [Act.put, List.setIfInBounds_toArray, List.set_cons_zero, List.set_cons_succ]
  refine wpAnyH_takeD (i := 5) (some 99) rfl (by kernel_rfl) (by kernel_rfl) (by kernel_rfl) rfl (fun _ _ _ h => h) (Or.inl ⟨by rfl, by rintro w hs; first | rfl | (go_simp; done) | (go_simp; rfl)⟩) (by assumption) ?_
  simp only [Act.put, List.setIfInBounds_toArray, List.set_cons_zero, List.set_cons_succ]
  refine wpAnyH_ready (rs := [4]) (by kernel_rfl) (by simp) ?_
  refine AllReadyH.cons rfl (fun K hK => ?_) AllReadyH.nil
  go_simp
  refine (CAll.out w11.drew).mono ?_
  rintro e z11 ⟨va11, rfl, oa11, ba11⟩
  have bb11 := (Below.drewZ w11).trans ba11
  have G11 := H11.out.after bb11
  refine hK.out _ _ G11.gb (fun hHeld => ?_)
  clear hK
  try simp only [Act.put, List.setIfInBounds_toArray, List.set_cons_zero, List.set_cons_succ]
  have cR := st_read G11 HM.out.2.2.2.2.2 (by decide) HM.out.2.2.1 (Lst.new oa11 fun q hq => H11.out.ra.lt q hq) (by rw [allL_len]; have := HN7.out.1; omega)
  refine wpAnyH_ready (rs := [6]) (by kernel_rfl) (by simp) ?_
  refine AllReadyH.cons rfl (fun K hK => ?_) AllReadyH.nil
  go_simp
  refine cR.mono ?_
  rintro e w12 ⟨vd12, vb12, rfl, od12, ob12, bz12⟩
  obtain ⟨x12, y12, hf12⟩ := od12.reads.form
  rw [show (tx C).length = C.length from List.length_map ..] at hf12
  subst hf12
  have h12 := G11.after bz12
  refine hK.out _ _ h12.gb (fun hHeld => ?_)
  clear hK
  try simp only [Act.put, List.setIfInBounds_toArray, List.set_cons_zero, List.set_cons_succ]
  refine wpAnyH_takeD (i := 7) (v := .tuple #[.slice x12 C.length y12, vb12, .int .i64 0]) (some 93) rfl (by kernel_rfl) (by kernel_rfl) (by kernel_rfl) rfl (fun _ _ _ h => h) (Or.inl ⟨by rfl, by rintro w hs; first | rfl | (go_simp; done) | (go_simp; rfl)⟩) (by assumption) ?_
  simp only [Act.put, List.setIfInBounds_toArray, List.set_cons_zero, List.set_cons_succ]
  refine wpAnyH_takeD (i := 8) (v := .slice x12 C.length y12) (some 101) rfl (by kernel_rfl) (by kernel_rfl) (by kernel_rfl) rfl (fun _ _ _ h => h) (Or.inl ⟨by rfl, by rintro w hs; first | rfl | (go_simp; done) | (go_simp; rfl)⟩) (by assumption) ?_
  simp only [Act.put, List.setIfInBounds_toArray, List.set_cons_zero, List.set_cons_succ]
  refine wpAnyH_takeD (i := 9) (v := vb12) (some 102) rfl (by kernel_rfl) (by kernel_rfl) (by kernel_rfl) rfl (fun _ _ _ h => h) (Or.inl ⟨by rfl, by rintro w hs; first | rfl | (go_simp; done) | (go_simp; rfl)⟩) (by assumption) ?_
  simp only [Act.put, List.setIfInBounds_toArray, List.set_cons_zero, List.set_cons_succ]
  refine wpAnyH_takeD (i := 10) (v := .int .i64 0) (some 103) rfl (by kernel_rfl) (by kernel_rfl) (by kernel_rfl) rfl (fun _ _ _ h => h) (Or.inl ⟨by rfl, by rintro w hs; first | rfl | (go_simp; done) | (go_simp; rfl)⟩) (by assumption) ?_
  simp only [Act.put, List.setIfInBounds_toArray, List.set_cons_zero, List.set_cons_succ]
  refine wpAnyH_takeD (i := 11) (v := .slice x12 C.length y12) (some 26) rfl (by kernel_rfl) (by kernel_rfl) (by kernel_rfl) rfl (fun _ _ _ h => h) (Or.inl ⟨by rfl, by rintro w hs; first | rfl | (go_simp; done) | (go_simp; rfl)⟩) (by assumption) ?_
  simp only [Act.put, List.setIfInBounds_toArray, List.set_cons_zero, List.set_cons_succ]
  refine wpAnyH_takeD (i := 12) (v := vb12) (some 27) rfl (by kernel_rfl) (by kernel_rfl) (by kernel_rfl) rfl (fun _ _ _ h => h) (Or.inl ⟨by rfl, by rintro w hs; first | rfl | (go_simp; done) | (go_simp; rfl)⟩) (by assumption) ?_
  simp only [Act.put, List.setIfInBounds_toArray, List.set_cons_zero, List.set_cons_succ]
  refine wpAnyH_takeD (i := 13) (v := .int .i64 0) (some 28) rfl (by kernel_rfl) (by kernel_rfl) (by kernel_rfl) rfl (fun _ _ _ h => h) (Or.inl ⟨by rfl, by rintro w hs; first | rfl | (go_simp; done) | (go_simp; rfl)⟩) (by assumption) ?_
  simp only [Act.put, List.setIfInBounds_toArray, List.set_cons_zero, List.set_cons_succ]
  refine wpAnyH_done (by kernel_rfl) ?_ _
  have H12 := Lib.hid h12
  have bt12 := bb11.trans (bz12.mono bb11.size)
  have D_12 := Lib.hid (D_11.out.below bt12)
  have C_12 := Lib.hid (C_11.out.below bt12)
  have X_12 := Lib.hid (X_11.out.below bt12)
  have Z_12 := Lib.hid (Lst.new od12 fun q hq => G11.ra.lt q hq)
  clear hHeld cR h12 od12 ob12 G11 bb11 ba11 oa11 bz12 bt12 H11 D_11 C_11 X_11
  have hlC : C.length ≤ 140737488355328 := by have := hd2.out; have := HN7.out.2.1; omega
  have cS := same_any (.slice x12 C.length y12) (.slice x8 C.length y8) C C w12 Z_12.out.r C_12.out.r hlC hlC
  rw [decide_eq_true rfl] at cS
  have HW : Hid (∀ W, Below w12.heap.size w12 W → Below w.heap.size w W) := Lib.hid fun W hW => HB3.out.trans ((H12.out.ra.b.trans (hW.mono H12.out.ra.b.size)).mono HB3.out.size)
  clear H12 Z_12
  go_wp2_with (fail)
  refine cS.mono ?_
  rintro e wz ⟨rfl, bz, -⟩
  have Xz := Lib.hid (X_12.out.r.below bz)
  have Dz := Lib.hid (D_12.out.r.below bz)
  have Cz := Lib.hid (C_12.out.r.below bz)
  have hfz := Lib.hid (HW.out wz bz)
  have HWz : Hid (∀ W, Below wz.heap.size wz W → Below w.heap.size w W) := Lib.hid fun W hW => hfz.out.trans (hW.mono hfz.out.size)
  clear cS X_12 D_12 C_12 bz HW
  have hlD : D.length ≤ 140737488355328 := by have := hd1.out; have := HN7.out.2.1; omega
  by_cases hne : N = N'
  · have t1 : (N != N') = false := by rw [bne_eq_false_iff_eq]; exact hne
    by_cases h3 : 1 + q = 3
    · have t2 : (1 + q != 3) = false := by rw [bne_eq_false_iff_eq]; exact h3
      have hYc : Hid (Y = (C, [], 0)) := Lib.hid (HE.out.2.2 hne h3)
      rw [hYc.out] at Xz
      have cS := same_any _ _ C C wz Xz.out Cz.out hlC hlC
      rw [decide_eq_true rfl] at cS
      obtain rfl := hYc.out
      clear HM HE Xz Cz Dz hYc
      clear hne h3
      go_wp2_with (fail)
      refine cS.mono ?_
      rintro e wy ⟨rfl, by_, -⟩
      have hfin := Lib.hid (HWz.out wy by_)
      clear cS
      go_wp2_with (fail)
      go_ret
      exact ⟨rfl, hfin.out⟩
    · have t2 : (1 + q != 3) = true := by rw [bne_iff_ne]; exact h3
      have hYc := HE.out.2.1 hne h3
      obtain rfl := hYc
      clear HM HE Xz Cz Dz
      clear hne h3
      go_wp2_with (fail)
      go_ret
      exact ⟨rfl, hfz.out⟩
  · have t1 : (N != N') = true := by rw [bne_iff_ne]; exact hne
    have hYc : Hid (Y = (D, [], 0)) := Lib.hid (HE.out.1 hne)
    rw [hYc.out] at Xz
    have cS := same_any _ _ D D wz Xz.out Dz.out hlD hlD
    rw [decide_eq_true rfl] at cS
    obtain rfl := hYc.out
    clear HM HE Xz Cz Dz hYc
    clear hne
    go_wp2_with (fail)
    refine cS.mono ?_
    rintro e wy ⟨rfl, by_, -⟩
    have hfin := Lib.hid (HWz.out wy by_)
    clear cS
    go_wp2_with (fail)
    go_ret
    exact ⟨rfl, hfin.out⟩
end Go.Proofs.YtinceihboaiclaaGreatDoor
