/- stripe: StripeBack. -/
import Derived.Test.YtinceihboaiclaaGreatDoorStrCall
import Derived.Test.YtinceihboaiclaaGreatDoorStrHarm
import Derived.Test.YtinceihboaiclaaGreatDoorLmat

namespace Go.Proofs.YtinceihboaiclaaGreatDoor
open Go.RowKit
set_option linter.unusedVariables false
set_option linter.unusedSimpArgs false
set_option maxRecDepth 100000

set_option maxHeartbeats 16000000 in
theorem back_walk (K0 M0 B0 : Int) (n0 : Int) (a0 : Int) (b0 : Int) (v1 : Value) (l1 : List Int) (v2 : Value) (l2 : List Int) (w : World) (ht : Tabs w) (hk : (-9223372036854775808 ≤ K0 ∧ K0 ≤ 9223372036854775807) ∧ (-9223372036854775808 ≤ M0 ∧ M0 ≤ 9223372036854775807) ∧ -9223372036854775808 ≤ B0 ∧ B0 ≤ 9223372036854775807) (bn0 : -9223372036854775808 ≤ n0 ∧ n0 ≤ 9223372036854775807) (ba0 : -9223372036854775808 ≤ a0 ∧ a0 ≤ 9223372036854775807) (bb0 : -9223372036854775808 ≤ b0 ∧ b0 ≤ 9223372036854775807) (Rl1 : Reads w v1 (l1.map (.int .i64))) (Fl1 : ∀ x ∈ l1, -9223372036854775808 ≤ x ∧ x ≤ 9223372036854775807) (Nl1 : l1.length ≤ 9223372036854775806) (Cl1 : capOk v1) (Rl2 : Reads w v2 (l2.map (.int .i64))) (Fl2 : ∀ x ∈ l2, -9223372036854775808 ≤ x ∧ x ≤ 9223372036854775807) (Nl2 : l2.length ≤ 9223372036854775806) (Cl2 : capOk v2) :
    Calls Tryz.prog 3 #[.agg #[.int .i64 K0, .int .i64 M0, .int .i64 B0], .int .i64 n0, v1, v2, .int .i64 a0, .int .i64 b0] w fun e w' => e = .returned (.bool true) ∧ Below w.heap.size w w' := by
  have hg := fit_right K0 M0 B0
  have cA := aw13_any
  have cF := fun W => fit7_any K0 M0 B0 W hk.1.1 hk.1.2 hk.2.1.1 hk.2.1.2 hk.2.2.1 hk.2.2.2
  have hkm := k_cases hg
  obtain ⟨k, hK⟩ := Int.eq_ofNat_of_zero_le (show 0 ≤ fK K0 by omega)
  obtain ⟨m, hM⟩ := Int.eq_ofNat_of_zero_le (show 0 ≤ fM M0 by omega)
  obtain ⟨B, hB⟩ : ∃ B, fB B0 = B := ⟨_, rfl⟩
  rw [hK, hM, hB] at cF hg hkm
  clear hK hM hB hk
  obtain ⟨sec, hsec⟩ := Int.eq_ofNat_of_zero_le (show 0 ≤ gSectors (k : Int) (m : Int) B by
    have := sectors_eq hg
    have hd := div_rng (K := (k : Int)) (B := B) (by omega) ⟨hkm.2.2.1, hkm.2.2.2⟩
    omega)
  have cRk := fun W => racks_any k m sec B W hg hsec
  have hk9 : k ≤ 4 ∧ m ≤ 3 ∧ 1 ≤ k ∧ 1 ≤ m := by omega
  obtain ⟨n, hn⟩ : ∃ n, k + m = n := ⟨_, rfl⟩
  obtain ⟨T, hT⟩ : ∃ T, gStripes (k : Int) (m : Int) B = T := ⟨_, rfl⟩
  have hTr : 1 ≤ T ∧ T ≤ 200 := by rw [← hT, stripes_eq hg]; exact div_rng (by omega) ⟨hkm.2.2.1, hkm.2.2.2⟩
  have CAll : Hid (∀ W, Calls Tryz.prog 14 #[.agg #[.int .i64 (k : Int), .int .i64 (m : Int), .int .i64 B]] W (GivesZ W (allL n))) := Lib.hid fun W => by rw [← hn]; exact all13_any k m B W (by omega) (by omega)
  have CT : Hid (∀ W, Calls Tryz.prog 11 #[.agg #[.int .i64 (k : Int), .int .i64 (m : Int), .int .i64 B]] W fun e w' => e = .returned (.int .i64 T) ∧ Below W.heap.size W w') := Lib.hid fun W => by rw [← hT]; exact rstripes_any _ _ _ W
  have CRk : Hid (∀ W, Calls Tryz.prog 9 #[.agg #[.int .i64 (k : Int), .int .i64 (m : Int), .int .i64 B]] W (RacksTo W n sec)) := Lib.hid fun W => by rw [← hn]; exact cRk W
  have HN7 : Hid (n ≤ 7 ∧ k ≤ 4 ∧ m ≤ 3 ∧ 1 ≤ k ∧ n = k + m) := Lib.hid (by omega)
  have HTR := Lib.hid hTr
  obtain ⟨N, hN⟩ : ∃ N, pk n0 T = N := ⟨_, rfl⟩
  have hNr : 0 ≤ N ∧ N < T := by rw [← hN]; exact pk_rng _ _ (by omega)
  have CPn : Hid (∀ W, Calls Tryz.prog 10 #[.int .i64 n0, .int .i64 T] W fun e w' => e = .returned (.int .i64 N) ∧ W = w') := Lib.hid fun W => by rw [← hN]; exact pick13_any n0 T W bn0.1 bn0.2 hTr.1 (by omega)
  obtain ⟨b, hb⟩ := Int.eq_ofNat_of_zero_le (pk_rng a0 128 (by omega)).1
  obtain ⟨c, hc⟩ := Int.eq_ofNat_of_zero_le (pk_rng b0 255 (by omega)).1
  have hbr : b < 128 := by have := (pk_rng a0 128 (by omega)).2; omega
  have hcr : c < 255 := by have := (pk_rng b0 255 (by omega)).2; omega
  have CPa : Hid (∀ W, Calls Tryz.prog 10 #[.int .i64 a0, .int .i64 128] W fun e w' => e = .returned (.int .i64 (b : Int)) ∧ W = w') := Lib.hid fun W => by rw [← hb]; exact pick13_any a0 128 W ba0.1 ba0.2 (by omega) (by omega)
  have CPb : Hid (∀ W, Calls Tryz.prog 10 #[.int .i64 b0, .int .i64 255] W fun e w' => e = .returned (.int .i64 (c : Int)) ∧ W = w') := Lib.hid fun W => by rw [← hc]; exact pick13_any b0 255 W bb0.1 bb0.2 (by omega) (by omega)
  have hNT : N < gStripes (k : Int) (m : Int) B := by rw [hT]; exact hNr.2
  obtain ⟨a, hga, ha255, hal, hae⟩ := sec_le hg hNr.1 hNT hsec
  have CSec : Hid (∀ W, Calls Tryz.prog 19 #[.agg #[.int .i64 (k : Int), .int .i64 (m : Int), .int .i64 B], .int .i64 N] W fun e w' => e = .returned (.int .i64 (a : Int)) ∧ Below W.heap.size W w') := Lib.hid fun W => by rw [← hga]; exact rsector_any _ _ _ _ _
  obtain ⟨R1, R2, eW, eF, sp0, has, hj⟩ := back_start (n := n) (sec := sec) (d := dataL13 k l1) hg hn.symm hsec hNr.1 hNT hga (dataL13_right k l1)
  have o1 := stW_ok (K := (k : Int)) (M := (m : Int)) (B := B) (id := 3) (N := N) (l := allL n) (data := dataL13 k l1) (rok_00 n sec)
  rw [eW, allL_len, Nat.zero_add] at o1
  have o2 := stF_ok (l := allL n) o1
  rw [eF, allL_len] at o2
  have HM := Lib.hid (show _ ∧ _ ∧ ROk n R1 7 ∧ ROk n R2 14 ∧ Spoilt n sec a R2 R2 (List.replicate n false) from ⟨eW, eF, o1.le (by omega), o2.le (by omega), sp0⟩)
  have BR : Hid (∀ R gone, Spoilt n sec a R2 R gone → stR n R 3 (k : Int) (m : Int) B (allL n) N = if gone.count true ≤ m then (dataL13 k l1, goneL gone n, 0) else ([], goneL gone n, 130)) := Lib.hid fun R gone h => back_read h hg hn.symm hsec hNr.1 hNT hga (dataL13_right k l1) (fun j h => (hj j h).1) (fun j h => (hj j h).2.2.1)
  have SPR : Hid (∀ R gone (j : Nat), Spoilt n sec a R2 R gone → j < n → gone.getD j false = false → Spoilt n sec a R2 (upR n R (j : Int) fun M => roM M (a : Int) (b : Int) (1 + (c : Int))) (gone.set j true)) := Lib.hid fun R gone j h hjn hg0 => by
    have := h.rot (c := 1 + c) hjn has hg0 (hj j hjn).1 (hj j hjn).2.1 (hj j hjn).2.2.1 (hj j hjn).2.2.2 hbr (by omega) (by omega)
    rwa [Int.natCast_add] at this
  have SPB : Hid (∀ R gone (j : Nat), Spoilt n sec a R2 R gone → j < n → Spoilt n sec a R2 (upR n R (j : Int) blM) (gone.set j true)) := Lib.hid fun R gone j h hjn => h.blank hjn has
  have hd1 := Lib.hid (dataL13_len k l1)
  have f1 := Lib.hid (fits13 (show k ≤ 1000 by omega) l1)
  have HD1 : Hid (∀ W, Reads W v1 (l1.map (.int .i64)) → Calls Tryz.prog 12 #[.agg #[.int .i64 (k : Int), .int .i64 (m : Int), .int .i64 B], v1] W (GivesT W (dataL13 k l1))) := Lib.hid fun W hW => data13_any k m B _ l1 W (by omega) hW Fl1 (by omega)
  have haI : In64 (a : Int) := in64_iff.2 (by omega)
  clear hae ha255 hN hb hc hga hal eW eF sp0 has hj o1 o2 hNT
  generalize dataL13 k l1 = D at *
  clear cRk hsec hkm hg hn hT hk9 hTr
  obtain ⟨g0, hg0⟩ : ∃ g0, w.heap.size = g0 := ⟨_, rfl⟩
  obtain ⟨W0, hW0⟩ : ∃ W0, W0 = w.alloc (.cells #[.int .i64 K0, .int .i64 M0, .int .i64 B0] 23) := ⟨_, rfl⟩
  have hb0 : Below w.heap.size w W0 := by rw [hW0]; exact (Below.refl _ _).alloc (Nat.le_refl _) _
  have hr0 : W0.heap[g0]? = some (.cells #[.int .i64 K0, .int .i64 M0, .int .i64 B0] 23 (0, 0)) := by rw [hW0, ← hg0]; exact heap_alloc_new _ _
  have hr0l := (Array.getElem?_eq_some_iff.1 hr0).1
  have ht0 := ht.below hb0 ht.two
  have HT2 := Lib.hid ht.two
  have HB0 := Lib.hid hb0
  have HG0 := Lib.hid hg0
  obtain ⟨pal1, pcl1, hvl1, _⟩ := Reads.items Rl1
  subst hvl1
  have HRl1 := Lib.hid Rl1
  have HFl1 := Lib.hid Fl1
  clear Rl1 Fl1
  obtain ⟨pal2, pcl2, hvl2, _⟩ := Reads.items Rl2
  subst hvl2
  have HRl2 := Lib.hid Rl2
  have HFl2 := Lib.hid Fl2
  clear Rl2 Fl2
  clear ht hb0
  go_enter Tryz.func3, Tryz.ntmps3
  go_wp2_with (fail)
  rw [show w.alloc (.cells #[.int .i64 K0, .int .i64 M0, .int .i64 B0] 23) = W0 from hW0.symm]
  clear hW0
  refine (cA W0 ht0).mono ?_
  rintro e w1 ⟨rfl, b1⟩
  have r0 : w1.cell? ⟨g0, 0, none⟩ = some (.int .i64 K0) := heap_cell ((b1.block g0 hr0l).trans hr0) rfl
  have r1 : w1.cell? ⟨g0, 1, none⟩ = some (.int .i64 M0) := heap_cell ((b1.block g0 hr0l).trans hr0) rfl
  have r2 : w1.cell? ⟨g0, 2, none⟩ = some (.int .i64 B0) := heap_cell ((b1.block g0 hr0l).trans hr0) rfl
  have ht1 := ht0.below b1 ht0.two
  have HB1 := Lib.hid (HB0.out.trans (b1.mono HB0.out.size))
  clear cA b1 ht0 hr0 hr0l
  go_wp2_with (fail)
  refine (cF w1).mono ?_
  rintro e w2 ⟨rfl, b2⟩
  have ht2 := ht1.below b2 ht1.two
  obtain ⟨W3, hW3⟩ : ∃ W3, W3 = w2.alloc (.cells #[.int .i64 (k : Int), .int .i64 (m : Int), .int .i64 B] 23) := ⟨_, rfl⟩
  obtain ⟨g, hg⟩ : ∃ g, w2.heap.size = g := ⟨_, rfl⟩
  have hb3 : Below w2.heap.size w2 W3 := by rw [hW3]; exact (Below.refl _ _).alloc (Nat.le_refl _) _
  have hg3 : W3.heap[g]? = some (.cells #[.int .i64 (k : Int), .int .i64 (m : Int), .int .i64 B] 23 (0, 0)) := by rw [hW3, ← hg]; exact heap_alloc_new _ _
  have hgl := (Array.getElem?_eq_some_iff.1 hg3).1
  have ht3 := ht2.below hb3 ht2.two
  have HB3 := Lib.hid (HB1.out.trans ((b2.trans (hb3.mono b2.size)).mono HB1.out.size))
  have e0 : W3.cell? ⟨g, 0, none⟩ = some (.int .i64 (k : Int)) := heap_cell hg3 rfl
  have e1 : W3.cell? ⟨g, 1, none⟩ = some (.int .i64 (m : Int)) := heap_cell hg3 rfl
  have e2 : W3.cell? ⟨g, 2, none⟩ = some (.int .i64 B) := heap_cell hg3 rfl
  clear cF b2 ht1 ht2 r0 r1 r2 hb3 HB1 HB0
  go_wp2_with (fail)
  rw [show w2.alloc (.cells #[.int .i64 (k : Int), .int .i64 (m : Int), .int .i64 B] 23) = W3 from hW3.symm]
  clear hW3
  refine (CRk.out W3).mono ?_
  rintro e w4 ⟨S4, ka, wq, Sb, kb, rfl, a4, _, _, _⟩
  have h4 : SW W3 S4 w4 ka n g (k : Int) (m : Int) B (R00 sec) := ⟨a4, (a4.b.block g hgl).trans hg3, fun z => by have := a4.f g z; omega, ht3.below a4.b ht3.two, ht3.two⟩
  have H4 := Lib.hid h4
  clear a4 h4 hg3 hgl ht3 e0 e1 e2 hg CRk
  obtain ⟨c0, c1, c2⟩ := H4.out.cells
  go_wp2_with (fail)
  refine (CT.out w4).mono ?_
  rintro e w5 ⟨rfl, b5⟩
  have H5 := Lib.hid (H4.out.after b5)
  clear H4 b5 
  clear c0 c1 c2
  go_wp2_with (fail)
  refine (CPn.out w5).mono ?_
  rintro e w5x ⟨rfl, rfl⟩
  have hw5 : Below w.heap.size w w5 := HB3.out.trans (H5.out.ra.b.mono HB3.out.size)
  have cD1 := HD1.out w5 (HRl1.out.below hw5)
  clear hw5 CPn CT HD1
  obtain ⟨c0, c1, c2⟩ := H5.out.cells
  go_wp2_with (fail)
  refine cD1.mono ?_
  rintro e w6 ⟨u6, rfl, o6, b6⟩
  obtain ⟨x6, y6, hf6⟩ := o6.reads.form
  rw [List.length_map] at hf6
  subst hf6
  have D_6 := Lib.hid (Lst.new o6 fun q hq => H5.out.ra.lt q hq)
  clear c0 c1 c2 cD1 o6
  have H6 := Lib.hid (H5.out.after b6)
  clear H5 b6 
  go_upto_region 8 with (fail)
  refine wp_region_held_drew (S := fun W => W.heap[g]? = some (.cells #[.int .i64 (k : Int), .int .i64 (m : Int), .int .i64 B] 23 (0, 0))) (by kernel_rfl) (H6.out.after (Below.drewZ w6)).gb (fun hHeld => ?_)
  refine wpAnyH_takeD (i := 0) (some 54) rfl (by kernel_rfl) (by kernel_rfl) (by kernel_rfl) rfl (fun _ _ _ h => h) (Or.inl ⟨by rfl, by rintro w hs; first | rfl | (go_simp; done) | (go_simp; rfl)⟩) (by assumption) ?_
  simp only [Act.put, List.setIfInBounds_toArray, List.set_cons_zero, List.set_cons_succ]
  refine wpAnyH_takeD (i := 1) (v := .agg #[.int .i64 (k : Int), .int .i64 (m : Int), .int .i64 B]) (some 55) rfl (by kernel_rfl) (by kernel_rfl) (by kernel_rfl) rfl (fun _ _ _ h => h) (yieldsIf_load_run (by rfl) _ rfl rfl (fun _ hs => geo_load hs)) (by assumption) ?_
  simp only [Act.put, List.setIfInBounds_toArray, List.set_cons_zero, List.set_cons_succ]
  refine wpAnyH_takeD (i := 2) (v := .agg #[.int .i64 (k : Int), .int .i64 (m : Int), .int .i64 B]) (some 56) rfl (by kernel_rfl) (by kernel_rfl) (by kernel_rfl) rfl (fun _ _ _ h => h) (yieldsIf_load_run (by rfl) _ rfl rfl (fun _ hs => geo_load hs)) (by assumption) ?_
  simp only [Act.put, List.setIfInBounds_toArray, List.set_cons_zero, List.set_cons_succ]
  refine wpAnyH_takeD (i := 4) (some 58) rfl (by kernel_rfl) (by kernel_rfl) (by kernel_rfl) rfl (fun _ _ _ h => h) (Or.inl ⟨by rfl, by rintro w hs; first | rfl | (go_simp; done) | (go_simp; rfl)⟩) (by assumption) ?_
  simp only [Act.put, List.setIfInBounds_toArray, List.set_cons_zero, List.set_cons_succ]
  refine wpAnyH_takeD (i := 5) (some 59) rfl (by kernel_rfl) (by kernel_rfl) (by kernel_rfl) rfl (fun _ _ _ h => h) (Or.inl ⟨by rfl, by rintro w hs; first | rfl | (go_simp; done) | (go_simp; rfl)⟩) (by assumption) ?_
  simp only [Act.put, List.setIfInBounds_toArray, List.set_cons_zero, List.set_cons_succ]
  refine wpAnyH_takeD (i := 6) (v := .agg #[.int .i64 N, .slice x6 D.length y6]) (some 60) rfl (by kernel_rfl) (by kernel_rfl) (by kernel_rfl) rfl (fun _ _ _ h => h) (Or.inl ⟨by rfl, by rintro w hs; first | rfl | (go_simp; done) | (go_simp; rfl)⟩) (by assumption) ?_
  simp only [Act.put, List.setIfInBounds_toArray, List.set_cons_zero, List.set_cons_succ]
  refine wpAnyH_ready (rs := [3]) (by kernel_rfl) (by simp) ?_
  refine AllReadyH.cons rfl (fun K hK => ?_) AllReadyH.nil
  go_simp
  refine (CAll.out w6.drew).mono ?_
  rintro e z6 ⟨va6, rfl, oa6, ba6⟩
  have bb6 := (Below.drewZ w6).trans ba6
  have G6 := H6.out.after bb6
  refine hK.out _ _ G6.gb (fun hHeld => ?_)
  clear hK
  try simp only [Act.put, List.setIfInBounds_toArray, List.set_cons_zero, List.set_cons_succ]
  have cW := st_write G6 (rok_00 n sec) (by decide) HM.out.1 (Lst.new oa6 fun q hq => H6.out.ra.lt q hq) (by rw [allL_len]; have := HN7.out.1; omega) (D_6.out.below bb6) f1.out (by have := HN7.out.2.1; have := hd1.out; omega)
  refine wpAnyH_ready (rs := [7]) (by kernel_rfl) (by simp) ?_
  refine AllReadyH.cons rfl (fun K hK => ?_) AllReadyH.nil
  go_simp
  refine cW.mono ?_
  rintro e w7 ⟨vw7, rfl, S7, s7, a7, ow7, nw7⟩
  obtain ⟨xw, yw, hfw0⟩ := ow7.reads.form
  have hfw : vw7 = .slice xw 0 yw := hfw0
  clear hfw0
  subst hfw
  have h7 := G6.stp s7 a7
  refine hK.out _ _ h7.gb (fun hHeld => ?_)
  clear hK
  try simp only [Act.put, List.setIfInBounds_toArray, List.set_cons_zero, List.set_cons_succ]
  refine wpAnyH_takeD (i := 8) (v := .tuple #[.slice xw 0 yw, .int .i64 0]) (some 53) rfl (by kernel_rfl) (by kernel_rfl) (by kernel_rfl) rfl (fun _ _ _ h => h) (Or.inl ⟨by rfl, by rintro w hs; first | rfl | (go_simp; done) | (go_simp; rfl)⟩) (by assumption) ?_
  simp only [Act.put, List.setIfInBounds_toArray, List.set_cons_zero, List.set_cons_succ]
  refine wpAnyH_takeD (i := 9) (v := .slice xw 0 yw) (some 62) rfl (by kernel_rfl) (by kernel_rfl) (by kernel_rfl) rfl (fun _ _ _ h => h) (Or.inl ⟨by rfl, by rintro w hs; first | rfl | (go_simp; done) | (go_simp; rfl)⟩) (by assumption) ?_
  simp only [Act.put, List.setIfInBounds_toArray, List.set_cons_zero, List.set_cons_succ]
  refine wpAnyH_takeD (i := 10) (v := .int .i64 0) (some 63) rfl (by kernel_rfl) (by kernel_rfl) (by kernel_rfl) rfl (fun _ _ _ h => h) (Or.inl ⟨by rfl, by rintro w hs; first | rfl | (go_simp; done) | (go_simp; rfl)⟩) (by assumption) ?_
  simp only [Act.put, List.setIfInBounds_toArray, List.set_cons_zero, List.set_cons_succ]
  refine wpAnyH_takeD (i := 11) (v := .slice xw 0 yw) (some 18) rfl (by kernel_rfl) (by kernel_rfl) (by kernel_rfl) rfl (fun _ _ _ h => h) (Or.inl ⟨by rfl, by rintro w hs; first | rfl | (go_simp; done) | (go_simp; rfl)⟩) (by assumption) ?_
  simp only [Act.put, List.setIfInBounds_toArray, List.set_cons_zero, List.set_cons_succ]
  refine wpAnyH_takeD (i := 12) (v := .int .i64 0) (some 19) rfl (by kernel_rfl) (by kernel_rfl) (by kernel_rfl) rfl (fun _ _ _ h => h) (Or.inl ⟨by rfl, by rintro w hs; first | rfl | (go_simp; done) | (go_simp; rfl)⟩) (by assumption) ?_
  simp only [Act.put, List.setIfInBounds_toArray, List.set_cons_zero, List.set_cons_succ]
  refine wpAnyH_done (by kernel_rfl) ?_ _
  have H7 := Lib.hid h7
  have D_7 := Lib.hid ((D_6.out.below bb6).stp s7)
  clear hHeld cW h7 s7 a7 ow7 nw7 G6 bb6 ba6 oa6 H6 D_6
  obtain ⟨c0, c1, c2⟩ := H7.out.cells
  go_wp2_with (fail)
  refine (CAll.out w7).mono ?_
  rintro e w8 ⟨va8, rfl, o8, b8⟩
  have L8 := Lst.new o8 fun q hq => H7.out.ra.lt q hq
  have H8 := Lib.hid (H7.out.after b8)
  have D_8 := Lib.hid (D_7.out.below b8)
  clear H7 b8 D_7
  have cF := st_flush H8.out HM.out.2.2.1 (by decide) HM.out.2.1 L8 (by rw [allL_len]; have := HN7.out.1; omega)
  clear c0 c1 c2 o8 L8
  go_wp2_with (fail)
  refine cF.mono ?_
  rintro e w9 ⟨vf, rfl, S9, s9, a9, of9, nf9⟩
  have h9 := H8.out.stp s9 a9
  have D_9 := Lib.hid (D_8.out.stp s9)
  obtain ⟨xf, yf, hff0⟩ := of9.reads.form
  have hff : vf = .slice xf 0 yf := hff0
  clear hff0
  subst hff
  obtain ⟨c0, c1, c2⟩ := h9.cells
  have HN := HN7.out
  have hn5 : ((n : Nat) : Int) = (k : Int) + (m : Int) := by omega
  have hkb : (k : Int) ≤ 4 := by omega
  have hmb : (m : Int) ≤ 3 := by omega
  have hk1 : 1 ≤ (k : Int) := by omega
  obtain ⟨i1, hi1, hy0, hy1, hy2⟩ := info_parts Tryz.infoBl
  obtain ⟨wm, hmk, om, bm⟩ := Own.make_run (P := Tryz.prog) (T := 42) Tryz.underlying42 hi1 hy0 hy1 hy2 rfl w9 n (by omega) (by omega)
  rw [hn5] at hmk
  obtain ⟨p, hp⟩ : ∃ p, w9.heap.size = p := ⟨_, rfl⟩
  rw [hp] at hmk om
  have HP : Hid (W3.heap.size ≤ p ∧ g ≠ p ∧ ∀ q, (Value.slice x6 D.length y6).ownBlock = some q → q ≠ p) := Lib.hid ⟨by rw [← hp]; exact h9.ra.b.size, by have := h9.gl; omega, fun q hq => by have := (D_9.out.n q hq).1; omega⟩
  have hm0 := h9.after bm
  have G0 : Hid (GN wm S9 p n (List.replicate n false)) := Lib.hid ⟨by simpa [bv] using om, fun z => by have := h9.ra.lt p z; omega⟩
  have Dm := Lib.hid (D_9.out.below bm)
  have Hm := Lib.hid hm0
  clear hn5 HN bm om hp h9 cF s9 a9 of9 nf9 D_8 D_9 H8 hm0 hi1 hy0 hy1 hy2
  go_wp2_with (fail)
  go_loopw [23, 24, 25, 26, 143, 148] (fun u t _ _ _ _ wr => ∃ (i : Nat) (cnt : Nat) (S : Nat → Prop) (R : Rk) (gone : List Bool), i ≤ l2.length ∧ i ≤ 20 ∧ u = .int .i64 (cnt : Int) ∧ t = .int .i64 (i : Int) ∧ Hid (cnt = gone.count true) ∧ SW W3 S wr ka n g (k : Int) (m : Int) B R ∧ ROk n R 14 ∧ Spoilt n sec a R2 R gone ∧ GN wr S p n gone ∧ Lst wr S (.slice x6 D.length y6) (tx D)) (fun _ t _ _ _ _ _ => l2.length - (intOf t).toNat)
  case atStart => exact ⟨0, 0, S9, R2, List.replicate n false, Nat.zero_le _, by omega, rfl, rfl, Lib.hid (by rw [List.count_replicate]; rfl), Hm.out, HM.out.2.2.2.1, HM.out.2.2.2.2, G0.out, Dm.out⟩
  case round =>
    clear Hm G0 Dm hmk
    obtain ⟨i, cnt, S, R, gone, hi, hi20, rfl, rfl, hcnt, h, hro, hsp, hgn, hD⟩ := hrel
    rename World => wr
    have hcb : cnt ≤ 7 := by have e := hcnt.out; have := List.count_le_length (a := true) (l := gone); have := hsp.ln; have := HN7.out.1; omega
    by_cases hlt : i < l2.length ∧ i < 20
    · obtain ⟨hlt, h20⟩ := hlt
      have y1 : (i : Int) < (l2.length : Int) := by omega
      have y2 : (i : Int) < 20 := by omega
      obtain ⟨va', vc', hv', hit⟩ := Reads.items HRl2.out
      obtain ⟨rfl, rfl⟩ : pal2 = va' ∧ pcl2 = vc' := by injection hv' with z1 z2 z3; exact ⟨z1, z3⟩
      clear hv'
      obtain ⟨cb, co, rfl, hcb2, hc0⟩ := hit i hlt
      obtain ⟨x, hx⟩ : ∃ x, l2[i] = x := ⟨_, rfl⟩
      have hxr := HFl2.out l2[i] (List.getElem_mem hlt)
      rw [hx] at hc0 hxr
      have cx : wr.cell? ⟨cb, co + i, none⟩ = some (.int .i64 x) := ((HB3.out.trans (h.ra.b.mono HB3.out.size)).cell (p := ⟨cb, co + i, none⟩) hcb2).trans hc0
      have hpx := pk_rng x (3 * ((k : Int) + (m : Int))) (by omega)
      have cP := fun W => pick13_any x (3 * ((k : Int) + (m : Int))) W hxr.1 hxr.2 (by omega) (by omega)
      obtain ⟨cc, hcc⟩ := Int.eq_ofNat_of_zero_le hpx.1
      rw [hcc] at hpx cP
      have HN := HN7.out
      have hjn0 := Nat.mod_lt cc (show 0 < n by omega)
      obtain ⟨j, hj⟩ : ∃ j, cc % n = j := ⟨_, rfl⟩
      obtain ⟨q, hq⟩ : ∃ q, cc / n = q := ⟨_, rfl⟩
      rw [hj] at hjn0
      have hq3 : q < 3 := by rw [← hq]; exact Nat.div_lt_of_lt_mul (by omega)
      have hm1 : Hid ((cc : Int) % ((k : Int) + (m : Int)) = (j : Int)) := Lib.hid (by rw [show (k : Int) + (m : Int) = ((n : Nat) : Int) by omega, ← hj]; rfl)
      have hm2 : Hid ((cc : Int) / ((k : Int) + (m : Int)) = (q : Int)) := Lib.hid (by rw [show (k : Int) + (m : Int) = ((n : Nat) : Int) by omega, ← hq]; rfl)
      have hm3 : ¬ ((k : Int) + (m : Int) = 0) := by omega
      have hm4 : ((k : Int) + (m : Int) == 0) = false := by rw [beq_eq_false_iff_ne]; exact hm3
      obtain ⟨c0, c1, c2⟩ := h.cells
      have H := Lib.hid h
      have HGN := Lib.hid hgn
      have HD := Lib.hid hD
      have HSP := Lib.hid hsp
      have HRO := Lib.hid hro
      have HJ := Lib.hid hjn0
      clear hit hcb2 hc0 hx hcc hj hq h hgn hD hsp hro HN hjn0 hpx
      go_upto_region 17 with (fail)
      go_cut [25] from 98 to 108 (fun u wx => u = .int .i64 (cc : Int) ∧ Below wr.heap.size wr wx)
      case first =>
        go_quiet ((go_at_call 10; exact Calls.quiet_of_same ((cP _).mono fun _ _ h => ⟨h.1, h.2.symm⟩)))
        go_wp2_with (fail)
        go_meet
        exact ⟨rfl, below_N _ _⟩
      case rest =>
      obtain ⟨rfl, hbx⟩ := hcut
      have Hx := Lib.hid (H.out.after hbx)
      have Gx := Lib.hid (HGN.out.after hbx)
      have Dx := Lib.hid (HD.out.below hbx)
      clear H HGN HD c0 c1 c2 cx cP hbx
      obtain ⟨c0, c1, c2⟩ := Hx.out.cells
      have hjn := HJ.out
      have hjI : (j : Int) < (n : Int) := by omega
      have hmod : (cc : Int) % ((k : Int) + (m : Int)) = (j : Int) := hm1.out
      have hmod2 : (cc : Int).tmod ((k : Int) + (m : Int)) = (j : Int) := by rw [Int.tmod_eq_emod_of_nonneg (by omega)]; exact hmod
      have cj := Gx.out.cell (i := j) (by rw [HSP.out.ln]; exact hjn)
      by_cases hgj : gone.getD j false = true
      · rw [hgj] at cj
        go_wp2_with (fail)
        go_roundw
        case rel => exact ⟨i + 1, cnt, S, R, gone, by omega, by omega, rfl, by go_num, hcnt, Hx.out, HRO.out, HSP.out, Gx.out, Dx.out⟩
        case measure => simp [intOf]; omega
      · have hgf : gone.getD j false = false := by simpa using hgj
        rw [hgf] at cj
        have fz := Gx.out.fro j
        have P2 := HP.out
        have H2 := Lib.hid (Hx.out.put P2.1 P2.2.1 Gx.out.n j (.bool true))
        have G2 := Lib.hid (Gx.out.put j)
        have D2 := Lib.hid (Dx.out.put P2.2.2 j (.bool true))
        have hcn : Hid (cnt + 1 = (gone.set j true).count true) := Lib.hid (by rw [count_set (by rw [HSP.out.ln]; exact hjn) hgf, hcnt.out]; rfl)
        have hdiv : (cc : Int) / ((k : Int) + (m : Int)) = (q : Int) := hm2.out
        have hdiv2 : (cc : Int).tdiv ((k : Int) + (m : Int)) = (q : Int) := by rw [Int.tdiv_eq_ediv_of_nonneg (by omega)]; exact hdiv
        obtain ⟨d0, d1, d2⟩ := H2.out.cells
        clear P2 hgj
        clear Hx Gx Dx
        rcases (show q = 0 ∨ q = 1 ∨ q = 2 by omega) with rfl | rfl | rfl
        · have hdiv0 : (cc : Int) / ((k : Int) + (m : Int)) = 0 := hdiv
          have hdiv00 : (cc : Int).tdiv ((k : Int) + (m : Int)) = 0 := hdiv2
          clear hdiv hdiv2 hm2
          have cFa := rt_fail H2.out.ra (j : Int)
          go_wp2_with (fail)
          refine cFa.mono ?_
          rintro e w3' ⟨rfl, S3, s3, a3⟩
          have H3 := Lib.hid (H2.out.stp s3 a3)
          have G3 := Lib.hid (G2.out.stp s3)
          have D3 := Lib.hid (D2.out.stp s3)
          clear cFa H2 G2 D2 s3 a3
          go_wp2_with (fail)
          go_roundw
          case rel => exact ⟨i + 1, cnt + 1, S3, _, _, by omega, by omega, by go_num, by go_num, hcn, H3.out, HRO.out.up (j : Int) faM (fun M h => vn_fa), HSP.out.fail hjn, G3.out, D3.out⟩
          case measure => simp [intOf]; omega
        · have hdiv0 : (cc : Int) / ((k : Int) + (m : Int)) = 1 := hdiv
          have hdiv00 : (cc : Int).tdiv ((k : Int) + (m : Int)) = 1 := hdiv2
          clear hdiv hdiv2 hm2
          have cFa := rt_blank H2.out.ra (j : Int)
          go_wp2_with (fail)
          refine cFa.mono ?_
          rintro e w3' ⟨rfl, S3, s3, a3⟩
          have H3 := Lib.hid (H2.out.stp s3 a3)
          have G3 := Lib.hid (G2.out.stp s3)
          have D3 := Lib.hid (D2.out.stp s3)
          clear cFa H2 G2 D2 s3 a3
          go_wp2_with (fail)
          go_roundw
          case rel => exact ⟨i + 1, cnt + 1, S3, _, _, by omega, by omega, by go_num, by go_num, hcn, H3.out, HRO.out.up (j : Int) blM (fun M h => vn_bl), SPB.out R gone j HSP.out hjn, G3.out, D3.out⟩
          case measure => simp [intOf]; omega
        · have hdiv0 : (cc : Int) / ((k : Int) + (m : Int)) = 2 := hdiv
          have hdiv00 : (cc : Int).tdiv ((k : Int) + (m : Int)) = 2 := hdiv2
          clear hdiv hdiv2 hm2
          go_wp2_with (fail)
          refine (CSec.out _).mono ?_
          rintro e w3' ⟨rfl, b3'⟩
          have Hy := Lib.hid (H2.out.after b3')
          have Gy := Lib.hid (G2.out.after b3')
          have Dy := Lib.hid (D2.out.below b3')
          clear H2 G2 D2 b3'
          go_wp2_with (fail)
          refine (CPa.out _).mono ?_
          rintro e w4' ⟨rfl, rfl⟩
          go_wp2_with (fail)
          refine (CPb.out _).mono ?_
          rintro e w4' ⟨rfl, rfl⟩
          have cFa := rt_rot Hy.out.ra (j : Int) (a : Int) (b : Int) (1 + (c : Int)) haI
          go_wp2_with (fail)
          refine cFa.mono ?_
          rintro e w5' ⟨rfl, S3, s3, a3⟩
          have H3 := Lib.hid (Hy.out.stp s3 a3)
          have G3 := Lib.hid (Gy.out.stp s3)
          have D3 := Lib.hid (Dy.out.stp s3)
          clear cFa Hy Gy Dy s3 a3
          go_wp2_with (fail)
          go_roundw
          case rel => exact ⟨i + 1, cnt + 1, S3, _, _, by omega, by omega, by go_num, by go_num, hcn, H3.out, HRO.out.up (j : Int) (fun M => roM M (a : Int) (b : Int) (1 + (c : Int))) (fun M h => h.ro _ _ _), SPR.out R gone j HSP.out hjn hgf, G3.out, D3.out⟩
          case measure => simp [intOf]; omega
    ·
      by_cases hw : i < l2.length
      · have y1 : (i : Int) < (l2.length : Int) := by omega
        have y2 : ¬ ((i : Int) < 20) := by omega
        clear hw hlt
        obtain ⟨c0, c1, c2⟩ := h.cells
        have H30 := Lib.hid h
        have D_30 := Lib.hid hD
        have HGN := Lib.hid hgn
        have HSP := Lib.hid hsp
        have HRO := Lib.hid hro
        clear h hD hgn hsp hro
        go_wp2_with (fail)
        go_loopw [27, 28] (fun u t wx => ∃ i : Nat, i ≤ n ∧ t = .int .i64 (i : Int) ∧ Own wx wr.heap.size 3 u ((goneL gone i).map (.int .i64)) ∧ Below wr.heap.size wr wx) (fun _ t _ => n - (intOf t).toNat)
        case atStart => exact ⟨0, Nat.zero_le _, rfl, Own.nil _ _ _, Below.refl _ _⟩
        case round =>
          clear c0 c1 c2
          clear y1 y2
          obtain ⟨z, hz, rfl, ho, hB⟩ := hrel
          rename World => wx
          obtain ⟨c0, c1, c2⟩ := (H30.out.after hB).cells
          have HN := HN7.out
          have hgl : (goneL gone z).length ≤ 7 := by rw [goneL_len]; exact Nat.le_trans (List.count_le_length ..) (by rw [List.length_take]; omega)
          by_cases hz2 : z < n
          · have z1 : (z : Int) < (k : Int) + (m : Int) := by omega
            have z2 : (z : Int) < (n : Int) := by omega
            have cj := (HGN.out.after hB).cell (i := z) (by rw [HSP.out.ln]; exact hz2)
            have hsu := goneL_succ gone z
            by_cases hgj : gone.getD z false = true
            · rw [hgj] at cj
              rw [if_pos hgj] at hsu
              obtain ⟨i3, q1, q2, q3, q4⟩ := info_parts Tryz.infoI
              obtain ⟨v8, w8, hap, o8, b8, _⟩ := Own.pushA (P := Tryz.prog) (T := 24) Tryz.underlying24 q1 q2 q3 q4 rfl ho (.int .i64 (z : Int)) rfl hB.size (by rw [List.length_map]; omega) (by rw [List.length_map]; omega)
              have hnx : (goneL gone z).map (Value.int .i64) ++ [.int .i64 (z : Int)] = (goneL gone (z + 1)).map (Value.int .i64) := by rw [hsu, List.map_append]; rfl
              rw [hnx] at o8
              have HO := Lib.hid (And.intro o8 (hB.trans b8))
              clear o8 b8 hnx ho hB hsu HN q1 q2 q3 q4
              go_wp2_with (at_builtin; refine wpList_append_run hap _ _ rfl rfl rfl rfl rfl ?_)
              go_roundw
              case rel => exact ⟨z + 1, by omega, by go_num, HO.out.1, HO.out.2⟩
              case measure => simp [intOf]; omega
            · rw [if_neg hgj] at hsu
              rw [show gone.getD z false = false by simpa using hgj] at cj
              have HO := Lib.hid (And.intro ho hB)
              have hsuH := Lib.hid hsu
              clear ho hB hsu HN
              go_wp2_with (fail)
              go_roundw
              case rel => exact ⟨z + 1, by omega, by go_num, by rw [hsuH.out]; exact HO.out.1, HO.out.2⟩
              case measure => simp [intOf]; omega
          · obtain rfl : z = n := by omega
            have z1 : ¬ ((z : Int) < (k : Int) + (m : Int)) := by omega
            have H31 := Lib.hid (H30.out.after hB)
            have D_31 := Lib.hid (D_30.out.below hB)
            have OW := Lib.hid ho
            have BW := Lib.hid hB
            have eB := BR.out R gone HSP.out
            have hcl : Hid ((goneL gone z).length ≤ 140737488355328) := Lib.hid (by omega)
            clear H30 D_30 HN hgl ho hB
            obtain ⟨xo, yo, hfo⟩ := OW.out.reads.form
            rw [List.length_map] at hfo
            subst hfo
            by_cases hmm : cnt ≤ m
            · have hmI : ¬ ((m : Int) < (cnt : Int)) := by omega
              rw [if_pos (by rw [← hcnt.out]; exact hmm)] at eB
              have eBH := Lib.hid eB
              clear eB BR
              go_upto_region 34 with (fail)
              refine wp_region_held_drew (S := fun W => W.heap[g]? = some (.cells #[.int .i64 (k : Int), .int .i64 (m : Int), .int .i64 B] 23 (0, 0))) (by kernel_rfl) (H31.out.after (Below.drewZ wx)).gb (fun hHeld => ?_)
              refine wpAnyH_takeD (i := 0) (some 171) rfl (by kernel_rfl) (by kernel_rfl) (by kernel_rfl) rfl (fun _ _ _ h => h) (Or.inl ⟨by rfl, by rintro w hs; first | rfl | (go_simp; done) | (go_simp; rfl)⟩) (by assumption) ?_
              simp only [Act.put, List.setIfInBounds_toArray, List.set_cons_zero, List.set_cons_succ]
              refine wpAnyH_takeD (i := 1) (v := .agg #[.int .i64 (k : Int), .int .i64 (m : Int), .int .i64 B]) (some 172) rfl (by kernel_rfl) (by kernel_rfl) (by kernel_rfl) rfl (fun _ _ _ h => h) (yieldsIf_load_run (by rfl) _ rfl rfl (fun _ hs => geo_load hs)) (by assumption) ?_
              simp only [Act.put, List.setIfInBounds_toArray, List.set_cons_zero, List.set_cons_succ]
              refine wpAnyH_takeD (i := 2) (v := .agg #[.int .i64 (k : Int), .int .i64 (m : Int), .int .i64 B]) (some 173) rfl (by kernel_rfl) (by kernel_rfl) (by kernel_rfl) rfl (fun _ _ _ h => h) (yieldsIf_load_run (by rfl) _ rfl rfl (fun _ hs => geo_load hs)) (by assumption) ?_
              simp only [Act.put, List.setIfInBounds_toArray, List.set_cons_zero, List.set_cons_succ]
              refine wpAnyH_takeD (i := 4) (some 175) rfl (by kernel_rfl) (by kernel_rfl) (by kernel_rfl) rfl (fun _ _ _ h => h) (Or.inl ⟨by rfl, by rintro w hs; first | rfl | (go_simp; done) | (go_simp; rfl)⟩) (by assumption) ?_
              simp only [Act.put, List.setIfInBounds_toArray, List.set_cons_zero, List.set_cons_succ]
              refine wpAnyH_ready (rs := [3]) (by kernel_rfl) (by simp) ?_
              refine AllReadyH.cons rfl (fun K hK => ?_) AllReadyH.nil
              go_simp
              refine (CAll.out wx.drew).mono ?_
              rintro e z31 ⟨va31, rfl, oa31, ba31⟩
              have bb31 := (Below.drewZ wx).trans ba31
              have G31 := H31.out.after bb31
              refine hK.out _ _ G31.gb (fun hHeld => ?_)
              clear hK
              try simp only [Act.put, List.setIfInBounds_toArray, List.set_cons_zero, List.set_cons_succ]
              have cR := st_read G31 HRO.out (by decide) eBH.out (Lst.new oa31 fun q hq => H31.out.ra.lt q hq) (by rw [allL_len]; have := HN7.out.1; omega)
              refine wpAnyH_ready (rs := [5]) (by kernel_rfl) (by simp) ?_
              refine AllReadyH.cons rfl (fun K hK => ?_) AllReadyH.nil
              go_simp
              refine cR.mono ?_
              rintro e w32 ⟨vd32, vb32, rfl, od32, ob32, bz32⟩
              obtain ⟨xe, ye, hfe⟩ := ob32.reads.form
              rw [List.length_map] at hfe
              subst hfe
              obtain ⟨x32, y32, hf32⟩ := od32.reads.form
              rw [show (tx D).length = D.length from List.length_map ..] at hf32
              subst hf32
              have h32 := G31.after bz32
              refine hK.out _ _ h32.gb (fun hHeld => ?_)
              clear hK
              try simp only [Act.put, List.setIfInBounds_toArray, List.set_cons_zero, List.set_cons_succ]
              refine wpAnyH_takeD (i := 6) (v := .tuple #[.slice x32 D.length y32, .slice xe (goneL gone z).length ye, .int .i64 0]) (some 170) rfl (by kernel_rfl) (by kernel_rfl) (by kernel_rfl) rfl (fun _ _ _ h => h) (Or.inl ⟨by rfl, by rintro w hs; first | rfl | (go_simp; done) | (go_simp; rfl)⟩) (by assumption) ?_
              simp only [Act.put, List.setIfInBounds_toArray, List.set_cons_zero, List.set_cons_succ]
              refine wpAnyH_takeD (i := 7) (v := .slice x32 D.length y32) (some 177) rfl (by kernel_rfl) (by kernel_rfl) (by kernel_rfl) rfl (fun _ _ _ h => h) (Or.inl ⟨by rfl, by rintro w hs; first | rfl | (go_simp; done) | (go_simp; rfl)⟩) (by assumption) ?_
              simp only [Act.put, List.setIfInBounds_toArray, List.set_cons_zero, List.set_cons_succ]
              refine wpAnyH_takeD (i := 8) (v := .slice xe (goneL gone z).length ye) (some 178) rfl (by kernel_rfl) (by kernel_rfl) (by kernel_rfl) rfl (fun _ _ _ h => h) (Or.inl ⟨by rfl, by rintro w hs; first | rfl | (go_simp; done) | (go_simp; rfl)⟩) (by assumption) ?_
              simp only [Act.put, List.setIfInBounds_toArray, List.set_cons_zero, List.set_cons_succ]
              refine wpAnyH_takeD (i := 9) (v := .int .i64 0) (some 179) rfl (by kernel_rfl) (by kernel_rfl) (by kernel_rfl) rfl (fun _ _ _ h => h) (Or.inl ⟨by rfl, by rintro w hs; first | rfl | (go_simp; done) | (go_simp; rfl)⟩) (by assumption) ?_
              simp only [Act.put, List.setIfInBounds_toArray, List.set_cons_zero, List.set_cons_succ]
              refine wpAnyH_takeD (i := 10) (v := .slice x32 D.length y32) (some 29) rfl (by kernel_rfl) (by kernel_rfl) (by kernel_rfl) rfl (fun _ _ _ h => h) (Or.inl ⟨by rfl, by rintro w hs; first | rfl | (go_simp; done) | (go_simp; rfl)⟩) (by assumption) ?_
              simp only [Act.put, List.setIfInBounds_toArray, List.set_cons_zero, List.set_cons_succ]
              refine wpAnyH_takeD (i := 11) (v := .slice xe (goneL gone z).length ye) (some 30) rfl (by kernel_rfl) (by kernel_rfl) (by kernel_rfl) rfl (fun _ _ _ h => h) (Or.inl ⟨by rfl, by rintro w hs; first | rfl | (go_simp; done) | (go_simp; rfl)⟩) (by assumption) ?_
              simp only [Act.put, List.setIfInBounds_toArray, List.set_cons_zero, List.set_cons_succ]
              refine wpAnyH_takeD (i := 12) (v := .int .i64 0) (some 31) rfl (by kernel_rfl) (by kernel_rfl) (by kernel_rfl) rfl (fun _ _ _ h => h) (Or.inl ⟨by rfl, by rintro w hs; first | rfl | (go_simp; done) | (go_simp; rfl)⟩) (by assumption) ?_
              simp only [Act.put, List.setIfInBounds_toArray, List.set_cons_zero, List.set_cons_succ]
              refine wpAnyH_done (by kernel_rfl) ?_ _
              have H32 := Lib.hid h32
              have bt32 := bb31.trans (bz32.mono bb31.size)
              have D_32 := Lib.hid (D_31.out.below bt32)
              have X_32 := Lib.hid (Lst.new od32 fun q hq => G31.ra.lt q hq)
              have OB := Lib.hid ob32.reads
              have OWz := Lib.hid (OW.out.reads.below bt32)
              clear hHeld cR h32 od32 ob32 G31 bb31 ba31 oa31 bz32 bt32 H31 D_31
              obtain ⟨c0, c1, c2⟩ := H32.out.cells
              have cI := ints8_any (.slice xe (goneL gone z).length ye) (.slice xo (goneL gone z).length yo) (goneL gone z) (goneL gone z) w32 OB.out OWz.out hcl.out hcl.out
              rw [decide_eq_true rfl] at cI
              clear OW BW
              go_wp2_with (fail)
              refine cI.mono ?_
              rintro e w33 ⟨rfl, b33, -⟩
              have H33 := Lib.hid (H32.out.after b33)
              have hf33 : Below w.heap.size w w33 := HB3.out.trans (H33.out.ra.b.mono HB3.out.size)
              have cS := same_any _ _ D D w33 (X_32.out.r.below b33) (D_32.out.r.below b33) (by have := hd1.out; have := HN7.out.2.1; omega) (by have := hd1.out; have := HN7.out.2.1; omega)
              rw [decide_eq_true rfl] at cS
              have HF33 := Lib.hid hf33
              clear c0 c1 c2 cI b33 hf33
              obtain ⟨c0, c1, c2⟩ := H33.out.cells
              go_wp2_with (fail)
              refine cS.mono ?_
              rintro e w34 ⟨rfl, b34, -⟩
              have hfin := Lib.hid (HF33.out.trans (b34.mono HF33.out.size))
              clear cS b34
              go_wp2_with (fail)
              go_ret
              exact ⟨rfl, hfin.out⟩
            · have hmI : (m : Int) < (cnt : Int) := by omega
              rw [if_neg (by rw [← hcnt.out]; exact hmm)] at eB
              have eBH := Lib.hid eB
              clear eB BR
              go_upto_region 34 with (fail)
              refine wp_region_held_drew (S := fun W => W.heap[g]? = some (.cells #[.int .i64 (k : Int), .int .i64 (m : Int), .int .i64 B] 23 (0, 0))) (by kernel_rfl) (H31.out.after (Below.drewZ wx)).gb (fun hHeld => ?_)
              refine wpAnyH_takeD (i := 0) (some 171) rfl (by kernel_rfl) (by kernel_rfl) (by kernel_rfl) rfl (fun _ _ _ h => h) (Or.inl ⟨by rfl, by rintro w hs; first | rfl | (go_simp; done) | (go_simp; rfl)⟩) (by assumption) ?_
              simp only [Act.put, List.setIfInBounds_toArray, List.set_cons_zero, List.set_cons_succ]
              refine wpAnyH_takeD (i := 1) (v := .agg #[.int .i64 (k : Int), .int .i64 (m : Int), .int .i64 B]) (some 172) rfl (by kernel_rfl) (by kernel_rfl) (by kernel_rfl) rfl (fun _ _ _ h => h) (yieldsIf_load_run (by rfl) _ rfl rfl (fun _ hs => geo_load hs)) (by assumption) ?_
              simp only [Act.put, List.setIfInBounds_toArray, List.set_cons_zero, List.set_cons_succ]
              refine wpAnyH_takeD (i := 2) (v := .agg #[.int .i64 (k : Int), .int .i64 (m : Int), .int .i64 B]) (some 173) rfl (by kernel_rfl) (by kernel_rfl) (by kernel_rfl) rfl (fun _ _ _ h => h) (yieldsIf_load_run (by rfl) _ rfl rfl (fun _ hs => geo_load hs)) (by assumption) ?_
              simp only [Act.put, List.setIfInBounds_toArray, List.set_cons_zero, List.set_cons_succ]
              refine wpAnyH_takeD (i := 4) (some 175) rfl (by kernel_rfl) (by kernel_rfl) (by kernel_rfl) rfl (fun _ _ _ h => h) (Or.inl ⟨by rfl, by rintro w hs; first | rfl | (go_simp; done) | (go_simp; rfl)⟩) (by assumption) ?_
              simp only [Act.put, List.setIfInBounds_toArray, List.set_cons_zero, List.set_cons_succ]
              refine wpAnyH_ready (rs := [3]) (by kernel_rfl) (by simp) ?_
              refine AllReadyH.cons rfl (fun K hK => ?_) AllReadyH.nil
              go_simp
              refine (CAll.out wx.drew).mono ?_
              rintro e z31 ⟨va31, rfl, oa31, ba31⟩
              have bb31 := (Below.drewZ wx).trans ba31
              have G31 := H31.out.after bb31
              refine hK.out _ _ G31.gb (fun hHeld => ?_)
              clear hK
              try simp only [Act.put, List.setIfInBounds_toArray, List.set_cons_zero, List.set_cons_succ]
              have cR := st_read G31 HRO.out (by decide) eBH.out (Lst.new oa31 fun q hq => H31.out.ra.lt q hq) (by rw [allL_len]; have := HN7.out.1; omega)
              refine wpAnyH_ready (rs := [5]) (by kernel_rfl) (by simp) ?_
              refine AllReadyH.cons rfl (fun K hK => ?_) AllReadyH.nil
              go_simp
              refine cR.mono ?_
              rintro e w32 ⟨vd32, vb32, rfl, od32, ob32, bz32⟩
              obtain ⟨xe, ye, hfe⟩ := ob32.reads.form
              rw [List.length_map] at hfe
              subst hfe
              obtain ⟨x32, y32, hf32⟩ := od32.reads.form
              rw [show (tx ([] : List ByteArray)).length = ([] : List ByteArray).length from List.length_map ..] at hf32
              subst hf32
              have h32 := G31.after bz32
              refine hK.out _ _ h32.gb (fun hHeld => ?_)
              clear hK
              try simp only [Act.put, List.setIfInBounds_toArray, List.set_cons_zero, List.set_cons_succ]
              refine wpAnyH_takeD (i := 6) (v := .tuple #[.slice x32 ([] : List ByteArray).length y32, .slice xe (goneL gone z).length ye, .int .i64 130]) (some 170) rfl (by kernel_rfl) (by kernel_rfl) (by kernel_rfl) rfl (fun _ _ _ h => h) (Or.inl ⟨by rfl, by rintro w hs; first | rfl | (go_simp; done) | (go_simp; rfl)⟩) (by assumption) ?_
              simp only [Act.put, List.setIfInBounds_toArray, List.set_cons_zero, List.set_cons_succ]
              refine wpAnyH_takeD (i := 7) (v := .slice x32 ([] : List ByteArray).length y32) (some 177) rfl (by kernel_rfl) (by kernel_rfl) (by kernel_rfl) rfl (fun _ _ _ h => h) (Or.inl ⟨by rfl, by rintro w hs; first | rfl | (go_simp; done) | (go_simp; rfl)⟩) (by assumption) ?_
              simp only [Act.put, List.setIfInBounds_toArray, List.set_cons_zero, List.set_cons_succ]
              refine wpAnyH_takeD (i := 8) (v := .slice xe (goneL gone z).length ye) (some 178) rfl (by kernel_rfl) (by kernel_rfl) (by kernel_rfl) rfl (fun _ _ _ h => h) (Or.inl ⟨by rfl, by rintro w hs; first | rfl | (go_simp; done) | (go_simp; rfl)⟩) (by assumption) ?_
              simp only [Act.put, List.setIfInBounds_toArray, List.set_cons_zero, List.set_cons_succ]
              refine wpAnyH_takeD (i := 9) (v := .int .i64 130) (some 179) rfl (by kernel_rfl) (by kernel_rfl) (by kernel_rfl) rfl (fun _ _ _ h => h) (Or.inl ⟨by rfl, by rintro w hs; first | rfl | (go_simp; done) | (go_simp; rfl)⟩) (by assumption) ?_
              simp only [Act.put, List.setIfInBounds_toArray, List.set_cons_zero, List.set_cons_succ]
              refine wpAnyH_takeD (i := 10) (v := .slice x32 ([] : List ByteArray).length y32) (some 29) rfl (by kernel_rfl) (by kernel_rfl) (by kernel_rfl) rfl (fun _ _ _ h => h) (Or.inl ⟨by rfl, by rintro w hs; first | rfl | (go_simp; done) | (go_simp; rfl)⟩) (by assumption) ?_
              simp only [Act.put, List.setIfInBounds_toArray, List.set_cons_zero, List.set_cons_succ]
              refine wpAnyH_takeD (i := 11) (v := .slice xe (goneL gone z).length ye) (some 30) rfl (by kernel_rfl) (by kernel_rfl) (by kernel_rfl) rfl (fun _ _ _ h => h) (Or.inl ⟨by rfl, by rintro w hs; first | rfl | (go_simp; done) | (go_simp; rfl)⟩) (by assumption) ?_
              simp only [Act.put, List.setIfInBounds_toArray, List.set_cons_zero, List.set_cons_succ]
              refine wpAnyH_takeD (i := 12) (v := .int .i64 130) (some 31) rfl (by kernel_rfl) (by kernel_rfl) (by kernel_rfl) rfl (fun _ _ _ h => h) (Or.inl ⟨by rfl, by rintro w hs; first | rfl | (go_simp; done) | (go_simp; rfl)⟩) (by assumption) ?_
              simp only [Act.put, List.setIfInBounds_toArray, List.set_cons_zero, List.set_cons_succ]
              refine wpAnyH_done (by kernel_rfl) ?_ _
              have H32 := Lib.hid h32
              have bt32 := bb31.trans (bz32.mono bb31.size)
              have D_32 := Lib.hid (D_31.out.below bt32)
              have X_32 := Lib.hid (Lst.new od32 fun q hq => G31.ra.lt q hq)
              have OB := Lib.hid ob32.reads
              have OWz := Lib.hid (OW.out.reads.below bt32)
              clear hHeld cR h32 od32 ob32 G31 bb31 ba31 oa31 bz32 bt32 H31 D_31
              obtain ⟨c0, c1, c2⟩ := H32.out.cells
              have cI := ints8_any (.slice xe (goneL gone z).length ye) (.slice xo (goneL gone z).length yo) (goneL gone z) (goneL gone z) w32 OB.out OWz.out hcl.out hcl.out
              rw [decide_eq_true rfl] at cI
              clear OW BW
              go_wp2_with (fail)
              refine cI.mono ?_
              rintro e w33 ⟨rfl, b33, -⟩
              have H33 := Lib.hid (H32.out.after b33)
              have hf33 : Below w.heap.size w w33 := HB3.out.trans (H33.out.ra.b.mono HB3.out.size)
              have HF33 := Lib.hid hf33
              clear c0 c1 c2 cI b33 hf33
              obtain ⟨c0, c1, c2⟩ := H33.out.cells
              go_wp2_with (fail)
              go_ret
              exact ⟨rfl, HF33.out⟩
      · have y1 : ¬ ((i : Int) < (l2.length : Int)) := by omega
        clear hw hlt
        obtain ⟨c0, c1, c2⟩ := h.cells
        have H30 := Lib.hid h
        have D_30 := Lib.hid hD
        have HGN := Lib.hid hgn
        have HSP := Lib.hid hsp
        have HRO := Lib.hid hro
        clear h hD hgn hsp hro
        go_wp2_with (fail)
        go_loopw [27, 28] (fun u t wx => ∃ i : Nat, i ≤ n ∧ t = .int .i64 (i : Int) ∧ Own wx wr.heap.size 3 u ((goneL gone i).map (.int .i64)) ∧ Below wr.heap.size wr wx) (fun _ t _ => n - (intOf t).toNat)
        case atStart => exact ⟨0, Nat.zero_le _, rfl, Own.nil _ _ _, Below.refl _ _⟩
        case round =>
          clear c0 c1 c2
          clear y1
          obtain ⟨z, hz, rfl, ho, hB⟩ := hrel
          rename World => wx
          obtain ⟨c0, c1, c2⟩ := (H30.out.after hB).cells
          have HN := HN7.out
          have hgl : (goneL gone z).length ≤ 7 := by rw [goneL_len]; exact Nat.le_trans (List.count_le_length ..) (by rw [List.length_take]; omega)
          by_cases hz2 : z < n
          · have z1 : (z : Int) < (k : Int) + (m : Int) := by omega
            have z2 : (z : Int) < (n : Int) := by omega
            have cj := (HGN.out.after hB).cell (i := z) (by rw [HSP.out.ln]; exact hz2)
            have hsu := goneL_succ gone z
            by_cases hgj : gone.getD z false = true
            · rw [hgj] at cj
              rw [if_pos hgj] at hsu
              obtain ⟨i3, q1, q2, q3, q4⟩ := info_parts Tryz.infoI
              obtain ⟨v8, w8, hap, o8, b8, _⟩ := Own.pushA (P := Tryz.prog) (T := 24) Tryz.underlying24 q1 q2 q3 q4 rfl ho (.int .i64 (z : Int)) rfl hB.size (by rw [List.length_map]; omega) (by rw [List.length_map]; omega)
              have hnx : (goneL gone z).map (Value.int .i64) ++ [.int .i64 (z : Int)] = (goneL gone (z + 1)).map (Value.int .i64) := by rw [hsu, List.map_append]; rfl
              rw [hnx] at o8
              have HO := Lib.hid (And.intro o8 (hB.trans b8))
              clear o8 b8 hnx ho hB hsu HN q1 q2 q3 q4
              go_wp2_with (at_builtin; refine wpList_append_run hap _ _ rfl rfl rfl rfl rfl ?_)
              go_roundw
              case rel => exact ⟨z + 1, by omega, by go_num, HO.out.1, HO.out.2⟩
              case measure => simp [intOf]; omega
            · rw [if_neg hgj] at hsu
              rw [show gone.getD z false = false by simpa using hgj] at cj
              have HO := Lib.hid (And.intro ho hB)
              have hsuH := Lib.hid hsu
              clear ho hB hsu HN
              go_wp2_with (fail)
              go_roundw
              case rel => exact ⟨z + 1, by omega, by go_num, by rw [hsuH.out]; exact HO.out.1, HO.out.2⟩
              case measure => simp [intOf]; omega
          · obtain rfl : z = n := by omega
            have z1 : ¬ ((z : Int) < (k : Int) + (m : Int)) := by omega
            have H31 := Lib.hid (H30.out.after hB)
            have D_31 := Lib.hid (D_30.out.below hB)
            have OW := Lib.hid ho
            have BW := Lib.hid hB
            have eB := BR.out R gone HSP.out
            have hcl : Hid ((goneL gone z).length ≤ 140737488355328) := Lib.hid (by omega)
            clear H30 D_30 HN hgl ho hB
            obtain ⟨xo, yo, hfo⟩ := OW.out.reads.form
            rw [List.length_map] at hfo
            subst hfo
            by_cases hmm : cnt ≤ m
            · have hmI : ¬ ((m : Int) < (cnt : Int)) := by omega
              rw [if_pos (by rw [← hcnt.out]; exact hmm)] at eB
              have eBH := Lib.hid eB
              clear eB BR
              go_upto_region 34 with (fail)
              refine wp_region_held_drew (S := fun W => W.heap[g]? = some (.cells #[.int .i64 (k : Int), .int .i64 (m : Int), .int .i64 B] 23 (0, 0))) (by kernel_rfl) (H31.out.after (Below.drewZ wx)).gb (fun hHeld => ?_)
              refine wpAnyH_takeD (i := 0) (some 171) rfl (by kernel_rfl) (by kernel_rfl) (by kernel_rfl) rfl (fun _ _ _ h => h) (Or.inl ⟨by rfl, by rintro w hs; first | rfl | (go_simp; done) | (go_simp; rfl)⟩) (by assumption) ?_
              simp only [Act.put, List.setIfInBounds_toArray, List.set_cons_zero, List.set_cons_succ]
              refine wpAnyH_takeD (i := 1) (v := .agg #[.int .i64 (k : Int), .int .i64 (m : Int), .int .i64 B]) (some 172) rfl (by kernel_rfl) (by kernel_rfl) (by kernel_rfl) rfl (fun _ _ _ h => h) (yieldsIf_load_run (by rfl) _ rfl rfl (fun _ hs => geo_load hs)) (by assumption) ?_
              simp only [Act.put, List.setIfInBounds_toArray, List.set_cons_zero, List.set_cons_succ]
              refine wpAnyH_takeD (i := 2) (v := .agg #[.int .i64 (k : Int), .int .i64 (m : Int), .int .i64 B]) (some 173) rfl (by kernel_rfl) (by kernel_rfl) (by kernel_rfl) rfl (fun _ _ _ h => h) (yieldsIf_load_run (by rfl) _ rfl rfl (fun _ hs => geo_load hs)) (by assumption) ?_
              simp only [Act.put, List.setIfInBounds_toArray, List.set_cons_zero, List.set_cons_succ]
              refine wpAnyH_takeD (i := 4) (some 175) rfl (by kernel_rfl) (by kernel_rfl) (by kernel_rfl) rfl (fun _ _ _ h => h) (Or.inl ⟨by rfl, by rintro w hs; first | rfl | (go_simp; done) | (go_simp; rfl)⟩) (by assumption) ?_
              simp only [Act.put, List.setIfInBounds_toArray, List.set_cons_zero, List.set_cons_succ]
              refine wpAnyH_ready (rs := [3]) (by kernel_rfl) (by simp) ?_
              refine AllReadyH.cons rfl (fun K hK => ?_) AllReadyH.nil
              go_simp
              refine (CAll.out wx.drew).mono ?_
              rintro e z31 ⟨va31, rfl, oa31, ba31⟩
              have bb31 := (Below.drewZ wx).trans ba31
              have G31 := H31.out.after bb31
              refine hK.out _ _ G31.gb (fun hHeld => ?_)
              clear hK
              try simp only [Act.put, List.setIfInBounds_toArray, List.set_cons_zero, List.set_cons_succ]
              have cR := st_read G31 HRO.out (by decide) eBH.out (Lst.new oa31 fun q hq => H31.out.ra.lt q hq) (by rw [allL_len]; have := HN7.out.1; omega)
              refine wpAnyH_ready (rs := [5]) (by kernel_rfl) (by simp) ?_
              refine AllReadyH.cons rfl (fun K hK => ?_) AllReadyH.nil
              go_simp
              refine cR.mono ?_
              rintro e w32 ⟨vd32, vb32, rfl, od32, ob32, bz32⟩
              obtain ⟨xe, ye, hfe⟩ := ob32.reads.form
              rw [List.length_map] at hfe
              subst hfe
              obtain ⟨x32, y32, hf32⟩ := od32.reads.form
              rw [show (tx D).length = D.length from List.length_map ..] at hf32
              subst hf32
              have h32 := G31.after bz32
              refine hK.out _ _ h32.gb (fun hHeld => ?_)
              clear hK
              try simp only [Act.put, List.setIfInBounds_toArray, List.set_cons_zero, List.set_cons_succ]
              refine wpAnyH_takeD (i := 6) (v := .tuple #[.slice x32 D.length y32, .slice xe (goneL gone z).length ye, .int .i64 0]) (some 170) rfl (by kernel_rfl) (by kernel_rfl) (by kernel_rfl) rfl (fun _ _ _ h => h) (Or.inl ⟨by rfl, by rintro w hs; first | rfl | (go_simp; done) | (go_simp; rfl)⟩) (by assumption) ?_
              simp only [Act.put, List.setIfInBounds_toArray, List.set_cons_zero, List.set_cons_succ]
              refine wpAnyH_takeD (i := 7) (v := .slice x32 D.length y32) (some 177) rfl (by kernel_rfl) (by kernel_rfl) (by kernel_rfl) rfl (fun _ _ _ h => h) (Or.inl ⟨by rfl, by rintro w hs; first | rfl | (go_simp; done) | (go_simp; rfl)⟩) (by assumption) ?_
              simp only [Act.put, List.setIfInBounds_toArray, List.set_cons_zero, List.set_cons_succ]
              refine wpAnyH_takeD (i := 8) (v := .slice xe (goneL gone z).length ye) (some 178) rfl (by kernel_rfl) (by kernel_rfl) (by kernel_rfl) rfl (fun _ _ _ h => h) (Or.inl ⟨by rfl, by rintro w hs; first | rfl | (go_simp; done) | (go_simp; rfl)⟩) (by assumption) ?_
              simp only [Act.put, List.setIfInBounds_toArray, List.set_cons_zero, List.set_cons_succ]
              refine wpAnyH_takeD (i := 9) (v := .int .i64 0) (some 179) rfl (by kernel_rfl) (by kernel_rfl) (by kernel_rfl) rfl (fun _ _ _ h => h) (Or.inl ⟨by rfl, by rintro w hs; first | rfl | (go_simp; done) | (go_simp; rfl)⟩) (by assumption) ?_
              simp only [Act.put, List.setIfInBounds_toArray, List.set_cons_zero, List.set_cons_succ]
              refine wpAnyH_takeD (i := 10) (v := .slice x32 D.length y32) (some 29) rfl (by kernel_rfl) (by kernel_rfl) (by kernel_rfl) rfl (fun _ _ _ h => h) (Or.inl ⟨by rfl, by rintro w hs; first | rfl | (go_simp; done) | (go_simp; rfl)⟩) (by assumption) ?_
              simp only [Act.put, List.setIfInBounds_toArray, List.set_cons_zero, List.set_cons_succ]
              refine wpAnyH_takeD (i := 11) (v := .slice xe (goneL gone z).length ye) (some 30) rfl (by kernel_rfl) (by kernel_rfl) (by kernel_rfl) rfl (fun _ _ _ h => h) (Or.inl ⟨by rfl, by rintro w hs; first | rfl | (go_simp; done) | (go_simp; rfl)⟩) (by assumption) ?_
              simp only [Act.put, List.setIfInBounds_toArray, List.set_cons_zero, List.set_cons_succ]
              refine wpAnyH_takeD (i := 12) (v := .int .i64 0) (some 31) rfl (by kernel_rfl) (by kernel_rfl) (by kernel_rfl) rfl (fun _ _ _ h => h) (Or.inl ⟨by rfl, by rintro w hs; first | rfl | (go_simp; done) | (go_simp; rfl)⟩) (by assumption) ?_
              simp only [Act.put, List.setIfInBounds_toArray, List.set_cons_zero, List.set_cons_succ]
              refine wpAnyH_done (by kernel_rfl) ?_ _
              have H32 := Lib.hid h32
              have bt32 := bb31.trans (bz32.mono bb31.size)
              have D_32 := Lib.hid (D_31.out.below bt32)
              have X_32 := Lib.hid (Lst.new od32 fun q hq => G31.ra.lt q hq)
              have OB := Lib.hid ob32.reads
              have OWz := Lib.hid (OW.out.reads.below bt32)
              clear hHeld cR h32 od32 ob32 G31 bb31 ba31 oa31 bz32 bt32 H31 D_31
              obtain ⟨c0, c1, c2⟩ := H32.out.cells
              have cI := ints8_any (.slice xe (goneL gone z).length ye) (.slice xo (goneL gone z).length yo) (goneL gone z) (goneL gone z) w32 OB.out OWz.out hcl.out hcl.out
              rw [decide_eq_true rfl] at cI
              clear OW BW
              go_wp2_with (fail)
              refine cI.mono ?_
              rintro e w33 ⟨rfl, b33, -⟩
              have H33 := Lib.hid (H32.out.after b33)
              have hf33 : Below w.heap.size w w33 := HB3.out.trans (H33.out.ra.b.mono HB3.out.size)
              have cS := same_any _ _ D D w33 (X_32.out.r.below b33) (D_32.out.r.below b33) (by have := hd1.out; have := HN7.out.2.1; omega) (by have := hd1.out; have := HN7.out.2.1; omega)
              rw [decide_eq_true rfl] at cS
              have HF33 := Lib.hid hf33
              clear c0 c1 c2 cI b33 hf33
              obtain ⟨c0, c1, c2⟩ := H33.out.cells
              go_wp2_with (fail)
              refine cS.mono ?_
              rintro e w34 ⟨rfl, b34, -⟩
              have hfin := Lib.hid (HF33.out.trans (b34.mono HF33.out.size))
              clear cS b34
              go_wp2_with (fail)
              go_ret
              exact ⟨rfl, hfin.out⟩
            · have hmI : (m : Int) < (cnt : Int) := by omega
              rw [if_neg (by rw [← hcnt.out]; exact hmm)] at eB
              have eBH := Lib.hid eB
              clear eB BR
              go_upto_region 34 with (fail)
              refine wp_region_held_drew (S := fun W => W.heap[g]? = some (.cells #[.int .i64 (k : Int), .int .i64 (m : Int), .int .i64 B] 23 (0, 0))) (by kernel_rfl) (H31.out.after (Below.drewZ wx)).gb (fun hHeld => ?_)
              refine wpAnyH_takeD (i := 0) (some 171) rfl (by kernel_rfl) (by kernel_rfl) (by kernel_rfl) rfl (fun _ _ _ h => h) (Or.inl ⟨by rfl, by rintro w hs; first | rfl | (go_simp; done) | (go_simp; rfl)⟩) (by assumption) ?_
              simp only [Act.put, List.setIfInBounds_toArray, List.set_cons_zero, List.set_cons_succ]
              refine wpAnyH_takeD (i := 1) (v := .agg #[.int .i64 (k : Int), .int .i64 (m : Int), .int .i64 B]) (some 172) rfl (by kernel_rfl) (by kernel_rfl) (by kernel_rfl) rfl (fun _ _ _ h => h) (yieldsIf_load_run (by rfl) _ rfl rfl (fun _ hs => geo_load hs)) (by assumption) ?_
              simp only [Act.put, List.setIfInBounds_toArray, List.set_cons_zero, List.set_cons_succ]
              refine wpAnyH_takeD (i := 2) (v := .agg #[.int .i64 (k : Int), .int .i64 (m : Int), .int .i64 B]) (some 173) rfl (by kernel_rfl) (by kernel_rfl) (by kernel_rfl) rfl (fun _ _ _ h => h) (yieldsIf_load_run (by rfl) _ rfl rfl (fun _ hs => geo_load hs)) (by assumption) ?_
              simp only [Act.put, List.setIfInBounds_toArray, List.set_cons_zero, List.set_cons_succ]
              refine wpAnyH_takeD (i := 4) (some 175) rfl (by kernel_rfl) (by kernel_rfl) (by kernel_rfl) rfl (fun _ _ _ h => h) (Or.inl ⟨by rfl, by rintro w hs; first | rfl | (go_simp; done) | (go_simp; rfl)⟩) (by assumption) ?_
              simp only [Act.put, List.setIfInBounds_toArray, List.set_cons_zero, List.set_cons_succ]
              refine wpAnyH_ready (rs := [3]) (by kernel_rfl) (by simp) ?_
              refine AllReadyH.cons rfl (fun K hK => ?_) AllReadyH.nil
              go_simp
              refine (CAll.out wx.drew).mono ?_
              rintro e z31 ⟨va31, rfl, oa31, ba31⟩
              have bb31 := (Below.drewZ wx).trans ba31
              have G31 := H31.out.after bb31
              refine hK.out _ _ G31.gb (fun hHeld => ?_)
              clear hK
              try simp only [Act.put, List.setIfInBounds_toArray, List.set_cons_zero, List.set_cons_succ]
              have cR := st_read G31 HRO.out (by decide) eBH.out (Lst.new oa31 fun q hq => H31.out.ra.lt q hq) (by rw [allL_len]; have := HN7.out.1; omega)
              refine wpAnyH_ready (rs := [5]) (by kernel_rfl) (by simp) ?_
              refine AllReadyH.cons rfl (fun K hK => ?_) AllReadyH.nil
              go_simp
              refine cR.mono ?_
              rintro e w32 ⟨vd32, vb32, rfl, od32, ob32, bz32⟩
              obtain ⟨xe, ye, hfe⟩ := ob32.reads.form
              rw [List.length_map] at hfe
              subst hfe
              obtain ⟨x32, y32, hf32⟩ := od32.reads.form
              rw [show (tx ([] : List ByteArray)).length = ([] : List ByteArray).length from List.length_map ..] at hf32
              subst hf32
              have h32 := G31.after bz32
              refine hK.out _ _ h32.gb (fun hHeld => ?_)
              clear hK
              try simp only [Act.put, List.setIfInBounds_toArray, List.set_cons_zero, List.set_cons_succ]
              refine wpAnyH_takeD (i := 6) (v := .tuple #[.slice x32 ([] : List ByteArray).length y32, .slice xe (goneL gone z).length ye, .int .i64 130]) (some 170) rfl (by kernel_rfl) (by kernel_rfl) (by kernel_rfl) rfl (fun _ _ _ h => h) (Or.inl ⟨by rfl, by rintro w hs; first | rfl | (go_simp; done) | (go_simp; rfl)⟩) (by assumption) ?_
              simp only [Act.put, List.setIfInBounds_toArray, List.set_cons_zero, List.set_cons_succ]
              refine wpAnyH_takeD (i := 7) (v := .slice x32 ([] : List ByteArray).length y32) (some 177) rfl (by kernel_rfl) (by kernel_rfl) (by kernel_rfl) rfl (fun _ _ _ h => h) (Or.inl ⟨by rfl, by rintro w hs; first | rfl | (go_simp; done) | (go_simp; rfl)⟩) (by assumption) ?_
              simp only [Act.put, List.setIfInBounds_toArray, List.set_cons_zero, List.set_cons_succ]
              refine wpAnyH_takeD (i := 8) (v := .slice xe (goneL gone z).length ye) (some 178) rfl (by kernel_rfl) (by kernel_rfl) (by kernel_rfl) rfl (fun _ _ _ h => h) (Or.inl ⟨by rfl, by rintro w hs; first | rfl | (go_simp; done) | (go_simp; rfl)⟩) (by assumption) ?_
              simp only [Act.put, List.setIfInBounds_toArray, List.set_cons_zero, List.set_cons_succ]
              refine wpAnyH_takeD (i := 9) (v := .int .i64 130) (some 179) rfl (by kernel_rfl) (by kernel_rfl) (by kernel_rfl) rfl (fun _ _ _ h => h) (Or.inl ⟨by rfl, by rintro w hs; first | rfl | (go_simp; done) | (go_simp; rfl)⟩) (by assumption) ?_
              simp only [Act.put, List.setIfInBounds_toArray, List.set_cons_zero, List.set_cons_succ]
              refine wpAnyH_takeD (i := 10) (v := .slice x32 ([] : List ByteArray).length y32) (some 29) rfl (by kernel_rfl) (by kernel_rfl) (by kernel_rfl) rfl (fun _ _ _ h => h) (Or.inl ⟨by rfl, by rintro w hs; first | rfl | (go_simp; done) | (go_simp; rfl)⟩) (by assumption) ?_
              simp only [Act.put, List.setIfInBounds_toArray, List.set_cons_zero, List.set_cons_succ]
              refine wpAnyH_takeD (i := 11) (v := .slice xe (goneL gone z).length ye) (some 30) rfl (by kernel_rfl) (by kernel_rfl) (by kernel_rfl) rfl (fun _ _ _ h => h) (Or.inl ⟨by rfl, by rintro w hs; first | rfl | (go_simp; done) | (go_simp; rfl)⟩) (by assumption) ?_
              simp only [Act.put, List.setIfInBounds_toArray, List.set_cons_zero, List.set_cons_succ]
              refine wpAnyH_takeD (i := 12) (v := .int .i64 130) (some 31) rfl (by kernel_rfl) (by kernel_rfl) (by kernel_rfl) rfl (fun _ _ _ h => h) (Or.inl ⟨by rfl, by rintro w hs; first | rfl | (go_simp; done) | (go_simp; rfl)⟩) (by assumption) ?_
              simp only [Act.put, List.setIfInBounds_toArray, List.set_cons_zero, List.set_cons_succ]
              refine wpAnyH_done (by kernel_rfl) ?_ _
              have H32 := Lib.hid h32
              have bt32 := bb31.trans (bz32.mono bb31.size)
              have D_32 := Lib.hid (D_31.out.below bt32)
              have X_32 := Lib.hid (Lst.new od32 fun q hq => G31.ra.lt q hq)
              have OB := Lib.hid ob32.reads
              have OWz := Lib.hid (OW.out.reads.below bt32)
              clear hHeld cR h32 od32 ob32 G31 bb31 ba31 oa31 bz32 bt32 H31 D_31
              obtain ⟨c0, c1, c2⟩ := H32.out.cells
              have cI := ints8_any (.slice xe (goneL gone z).length ye) (.slice xo (goneL gone z).length yo) (goneL gone z) (goneL gone z) w32 OB.out OWz.out hcl.out hcl.out
              rw [decide_eq_true rfl] at cI
              clear OW BW
              go_wp2_with (fail)
              refine cI.mono ?_
              rintro e w33 ⟨rfl, b33, -⟩
              have H33 := Lib.hid (H32.out.after b33)
              have hf33 : Below w.heap.size w w33 := HB3.out.trans (H33.out.ra.b.mono HB3.out.size)
              have HF33 := Lib.hid hf33
              clear c0 c1 c2 cI b33 hf33
              obtain ⟨c0, c1, c2⟩ := H33.out.cells
              go_wp2_with (fail)
              go_ret
              exact ⟨rfl, HF33.out⟩
end Go.Proofs.YtinceihboaiclaaGreatDoor
