/- stripe: StripeParts. -/
import Derived.Test.YtinceihboaiclaaGreatDoorStrCall
import Derived.Test.YtinceihboaiclaaGreatDoorStrTwo
import Derived.Test.YtinceihboaiclaaGreatDoorStrMath6
import Derived.Test.YtinceihboaiclaaGreatDoorLmat
import Derived.Deep.CutBlock

namespace Go.Proofs.YtinceihboaiclaaGreatDoor
open Go.RowKit
set_option linter.unusedVariables false
set_option linter.unusedSimpArgs false
set_option maxRecDepth 100000

set_option maxHeartbeats 16000000 in
theorem parts_walk (K0 M0 B0 : Int) (n0 : Int) (v1 : Value) (l1 : List Int) (v2 : Value) (l2 : List Int) (v3 : Value) (l3 : List Int) (w : World) (ht : Tabs w) (hk : (-9223372036854775808 ≤ K0 ∧ K0 ≤ 9223372036854775807) ∧ (-9223372036854775808 ≤ M0 ∧ M0 ≤ 9223372036854775807) ∧ -9223372036854775808 ≤ B0 ∧ B0 ≤ 9223372036854775807) (bn0 : -9223372036854775808 ≤ n0 ∧ n0 ≤ 9223372036854775807) (Rl1 : Reads w v1 (l1.map (.int .i64))) (Fl1 : ∀ x ∈ l1, -9223372036854775808 ≤ x ∧ x ≤ 9223372036854775807) (Nl1 : l1.length ≤ 9223372036854775806) (Cl1 : capOk v1) (Rl2 : Reads w v2 (l2.map (.int .i64))) (Fl2 : ∀ x ∈ l2, -9223372036854775808 ≤ x ∧ x ≤ 9223372036854775807) (Nl2 : l2.length ≤ 9223372036854775806) (Cl2 : capOk v2) (Rl3 : Reads w v3 (l3.map (.int .i64))) (Fl3 : ∀ x ∈ l3, -9223372036854775808 ≤ x ∧ x ≤ 9223372036854775807) (Nl3 : l3.length ≤ 9223372036854775806) (Cl3 : capOk v3) :
    Calls Tryz.prog 5 #[.agg #[.int .i64 K0, .int .i64 M0, .int .i64 B0], .int .i64 n0, v1, v2, v3] w fun e w' => e = .returned (.bool true) ∧ Below w.heap.size w w' := by
  have hg := fit_right K0 M0 B0
  have cA := aw13_any
  have cF := fun W => fit7_any K0 M0 B0 W hk.1.1 hk.1.2 hk.2.1.1 hk.2.1.2 hk.2.2.1 hk.2.2.2
  have hkm := k_cases hg
  obtain ⟨k, hK⟩ := Int.eq_ofNat_of_zero_le (show 0 ≤ fK K0 by omega)
  obtain ⟨m, hM⟩ := Int.eq_ofNat_of_zero_le (show 0 ≤ fM M0 by omega)
  obtain ⟨B, hB⟩ : ∃ B, fB B0 = B := ⟨_, rfl⟩
  rw [hK, hM, hB] at cF hg hkm
  clear hK hM hB hk
  obtain ⟨sec, hsec⟩ := Int.eq_ofNat_of_zero_le (show 0 ≤ gSectors (k : Int) (m : Int) B by
    have := sectors_eq hg
    have hd := div_rng (K := (k : Int)) (B := B) (by omega) ⟨hkm.2.2.1, hkm.2.2.2⟩
    omega)
  have cRk := fun W => racks_any k m sec B W hg hsec
  have hk9 : k ≤ 4 ∧ m ≤ 3 ∧ 1 ≤ k ∧ 1 ≤ m := by omega
  obtain ⟨n, hn⟩ : ∃ n, k + m = n := ⟨_, rfl⟩
  obtain ⟨T, hT⟩ : ∃ T, gStripes (k : Int) (m : Int) B = T := ⟨_, rfl⟩
  have hTr : 1 ≤ T ∧ T ≤ 200 := by rw [← hT, stripes_eq hg]; exact div_rng (by omega) ⟨hkm.2.2.1, hkm.2.2.2⟩
  have CAll : Hid (∀ W, Calls Tryz.prog 14 #[.agg #[.int .i64 (k : Int), .int .i64 (m : Int), .int .i64 B]] W (GivesZ W (allL n))) := Lib.hid fun W => by rw [← hn]; exact all13_any k m B W (by omega) (by omega)
  have CT : Hid (∀ W, Calls Tryz.prog 11 #[.agg #[.int .i64 (k : Int), .int .i64 (m : Int), .int .i64 B]] W fun e w' => e = .returned (.int .i64 T) ∧ Below W.heap.size W w') := Lib.hid fun W => by rw [← hT]; exact rstripes_any _ _ _ W
  have CRk : Hid (∀ W, Calls Tryz.prog 9 #[.agg #[.int .i64 (k : Int), .int .i64 (m : Int), .int .i64 B]] W (RacksTo W n sec)) := Lib.hid fun W => by rw [← hn]; exact cRk W
  have HN7 : Hid (n ≤ 7 ∧ k ≤ 4 ∧ m ≤ 3 ∧ 1 ≤ k ∧ n = k + m) := Lib.hid (by omega)
  have HTR := Lib.hid hTr
  obtain ⟨N, hN⟩ : ∃ N, pk n0 T = N := ⟨_, rfl⟩
  have hNr : 0 ≤ N ∧ N < T := by rw [← hN]; exact pk_rng _ _ (by omega)
  have CPn : Hid (∀ W, Calls Tryz.prog 10 #[.int .i64 n0, .int .i64 T] W fun e w' => e = .returned (.int .i64 N) ∧ W = w') := Lib.hid fun W => by rw [← hN]; exact pick13_any n0 T W bn0.1 bn0.2 hTr.1 (by omega)
  have hNT : N < gStripes (k : Int) (m : Int) B := by rw [hT]; exact hNr.2
  obtain ⟨Q1, Q2, eW, eF, hP, hRd, hIm⟩ := parts_model (n := n) (sec := sec) (D := dataL13 k l1) hg hn.symm hsec hNr.1 hNT (dataL13_right k l1)
  have o1 := stW_ok (K := (k : Int)) (M := (m : Int)) (B := B) (id := 3) (N := N) (l := allL n) (data := dataL13 k l1) (rok_00 n sec)
  rw [eW, allL_len, Nat.zero_add] at o1
  have o2 := stF_ok (l := allL n) o1
  rw [eF, allL_len] at o2
  have HM := Lib.hid (show _ ∧ _ ∧ ROk n Q1 7 ∧ ROk n Q2 14 from ⟨eW, eF, o1.le (by omega), o2.le (by omega)⟩)
  have HPM : Hid (∀ ins : List Bool, ∃ R1, stW n (R00 sec) 3 (k : Int) (m : Int) B (goneL ins n) N (dataL13 k l1) = (R1, [], 0) ∧ stW n R1 3 (k : Int) (m : Int) B (leftL ins n) N (dataL13 k l1) = (Q1, [], 0) ∧ ROk n R1 7) := Lib.hid fun ins => by
    obtain ⟨R1, e1, e2⟩ := hP ins
    have o3 := stW_ok (K := (k : Int)) (M := (m : Int)) (B := B) (id := 3) (N := N) (l := goneL ins n) (data := dataL13 k l1) (rok_00 n sec)
    rw [e1, Nat.zero_add] at o3
    exact ⟨R1, e1, e2, o3.le (by have := gone_left ins n; omega)⟩
  have HRD := Lib.hid hRd
  have HIM := Lib.hid hIm
  have hd1 := Lib.hid (dataL13_len k l1)
  have f1 := Lib.hid (fits13 (show k ≤ 1000 by omega) l1)
  have HD1 : Hid (∀ W, Reads W v1 (l1.map (.int .i64)) → Calls Tryz.prog 12 #[.agg #[.int .i64 (k : Int), .int .i64 (m : Int), .int .i64 B], v1] W (GivesT W (dataL13 k l1))) := Lib.hid fun W hW => data13_any k m B _ l1 W (by omega) hW Fl1 (by omega)
  clear hN eW eF hP hRd hIm o1 o2 hNT
  generalize dataL13 k l1 = D at *
  clear cRk hsec hkm hg hn hT hk9 hTr
  obtain ⟨g0, hg0⟩ : ∃ g0, w.heap.size = g0 := ⟨_, rfl⟩
  obtain ⟨W0, hW0⟩ : ∃ W0, W0 = w.alloc (.cells #[.int .i64 K0, .int .i64 M0, .int .i64 B0] 23) := ⟨_, rfl⟩
  have hb0 : Below w.heap.size w W0 := by rw [hW0]; exact (Below.refl _ _).alloc (Nat.le_refl _) _
  have hr0 : W0.heap[g0]? = some (.cells #[.int .i64 K0, .int .i64 M0, .int .i64 B0] 23 (0, 0)) := by rw [hW0, ← hg0]; exact heap_alloc_new _ _
  have hr0l := (Array.getElem?_eq_some_iff.1 hr0).1
  have ht0 := ht.below hb0 ht.two
  have HT2 := Lib.hid ht.two
  have HB0 := Lib.hid hb0
  have HG0 := Lib.hid hg0
  obtain ⟨pal1, pcl1, hvl1, _⟩ := Reads.items Rl1
  subst hvl1
  have HRl1 := Lib.hid Rl1
  have HFl1 := Lib.hid Fl1
  clear Rl1 Fl1
  obtain ⟨pal2, pcl2, hvl2, _⟩ := Reads.items Rl2
  subst hvl2
  have HRl2 := Lib.hid Rl2
  have HFl2 := Lib.hid Fl2
  clear Rl2 Fl2
  obtain ⟨pal3, pcl3, hvl3, _⟩ := Reads.items Rl3
  subst hvl3
  have HRl3 := Lib.hid Rl3
  have HFl3 := Lib.hid Fl3
  clear Rl3 Fl3
  clear ht hb0
  go_enter Tryz.func5, Tryz.ntmps5
  go_wp2_with (fail)
  rw [show w.alloc (.cells #[.int .i64 K0, .int .i64 M0, .int .i64 B0] 23) = W0 from hW0.symm]
  clear hW0
  refine (cA W0 ht0).mono ?_
  rintro e w1 ⟨rfl, b1⟩
  have r0 : w1.cell? ⟨g0, 0, none⟩ = some (.int .i64 K0) := heap_cell ((b1.block g0 hr0l).trans hr0) rfl
  have r1 : w1.cell? ⟨g0, 1, none⟩ = some (.int .i64 M0) := heap_cell ((b1.block g0 hr0l).trans hr0) rfl
  have r2 : w1.cell? ⟨g0, 2, none⟩ = some (.int .i64 B0) := heap_cell ((b1.block g0 hr0l).trans hr0) rfl
  have ht1 := ht0.below b1 ht0.two
  have HB1 := Lib.hid (HB0.out.trans (b1.mono HB0.out.size))
  clear cA b1 ht0 hr0 hr0l
  go_wp2_with (fail)
  refine (cF w1).mono ?_
  rintro e w2 ⟨rfl, b2⟩
  have ht2 := ht1.below b2 ht1.two
  obtain ⟨W3, hW3⟩ : ∃ W3, W3 = w2.alloc (.cells #[.int .i64 (k : Int), .int .i64 (m : Int), .int .i64 B] 23) := ⟨_, rfl⟩
  obtain ⟨g, hg⟩ : ∃ g, w2.heap.size = g := ⟨_, rfl⟩
  have hb3 : Below w2.heap.size w2 W3 := by rw [hW3]; exact (Below.refl _ _).alloc (Nat.le_refl _) _
  have hg3 : W3.heap[g]? = some (.cells #[.int .i64 (k : Int), .int .i64 (m : Int), .int .i64 B] 23 (0, 0)) := by rw [hW3, ← hg]; exact heap_alloc_new _ _
  have hgl := (Array.getElem?_eq_some_iff.1 hg3).1
  have ht3 := ht2.below hb3 ht2.two
  have HB3 := Lib.hid (HB1.out.trans ((b2.trans (hb3.mono b2.size)).mono HB1.out.size))
  have e0 : W3.cell? ⟨g, 0, none⟩ = some (.int .i64 (k : Int)) := heap_cell hg3 rfl
  have e1 : W3.cell? ⟨g, 1, none⟩ = some (.int .i64 (m : Int)) := heap_cell hg3 rfl
  have e2 : W3.cell? ⟨g, 2, none⟩ = some (.int .i64 B) := heap_cell hg3 rfl
  clear cF b2 ht1 ht2 r0 r1 r2 hb3 HB1 HB0
  go_wp2_with (fail)
  rw [show w2.alloc (.cells #[.int .i64 (k : Int), .int .i64 (m : Int), .int .i64 B] 23) = W3 from hW3.symm]
  clear hW3
  refine (CRk.out W3).mono ?_
  rintro e w4 ⟨S4, ka, wq, Sb, kb, rfl, a4, _, _, _⟩
  have h4 : SW W3 S4 w4 ka n g (k : Int) (m : Int) B (R00 sec) := ⟨a4, (a4.b.block g hgl).trans hg3, fun z => by have := a4.f g z; omega, ht3.below a4.b ht3.two, ht3.two⟩
  obtain ⟨c0, c1, c2⟩ := h4.cells
  have H4 := Lib.hid h4
  clear a4 h4 hg3 hgl ht3 e0 e1 e2 hg
  go_wp2_with (fail)
  refine (CRk.out w4).mono ?_
  rintro e w5 ⟨T5, kq, wq2, Sb2, kb2, rfl, a5, _, _, _⟩
  have b45 : Below w4.heap.size w4 w5 := RA.b a5
  have h5 : SW W3 S4 w5 ka n g (k : Int) (m : Int) B (R00 sec) := H4.out.after b45
  have Q5 : Hid (SW W3 T5 w5 kq n g (k : Int) (m : Int) B (R00 sec)) := Lib.hid ⟨RA.base a5 H4.out.ra.b, h5.gb, fun z => by have := RA.from a5 g z; have := H4.out.gl; omega, h5.tb, h5.two⟩
  have D5 : Hid (∀ x, S4 x → ¬ T5 x) := Lib.hid fun x z y => by have := RA.lt H4.out.ra x z; have := RA.from a5 x y; omega
  have H5 := Lib.hid h5
  clear H4 a5 b45 h5 c0 c1 c2 CRk
  obtain ⟨c0, c1, c2⟩ := H5.out.cells
  go_wp2_with (fail)
  refine (CT.out w5).mono ?_
  rintro e w6 ⟨rfl, b6⟩
  have H6 := Lib.hid (H5.out.after b6)
  have Q6 := Lib.hid (Q5.out.after b6)
  clear H5 Q5 b6 c0 c1 c2 CT
  go_wp2_with (fail)
  refine (CPn.out w6).mono ?_
  rintro e w6x ⟨rfl, rfl⟩
  have hw6 : Below w.heap.size w w6 := HB3.out.trans (H6.out.ra.b.mono HB3.out.size)
  have cD1 := HD1.out w6 (HRl1.out.below hw6)
  obtain ⟨c0, c1, c2⟩ := H6.out.cells
  clear hw6 CPn HD1
  go_wp2_with (fail)
  refine cD1.mono ?_
  rintro e w7 ⟨u7, rfl, o7, b7⟩
  obtain ⟨x7, y7, hf7⟩ := o7.reads.form
  rw [List.length_map] at hf7
  subst hf7
  obtain ⟨W8, hW8⟩ : ∃ W8, W8 = w7.alloc (.cells #[.int .i64 N, .slice x7 D.length y7] 40) := ⟨_, rfl⟩
  obtain ⟨b, hb⟩ : ∃ b, w7.heap.size = b := ⟨_, rfl⟩
  have b8 : Below w7.heap.size w7 W8 := by rw [hW8]; exact (Below.refl _ _).alloc (Nat.le_refl _) _
  have hs8 : W8.heap[b]? = some (.cells #[.int .i64 N, .slice x7 D.length y7] 40 (0, 0)) := by rw [hW8, ← hb]; exact heap_alloc_new _ _
  have h7 := H6.out.after b7
  have q7 := Q6.out.after b7
  have l7 : Lst w7 (UU S4 T5) (.slice x7 D.length y7) (tx D) := Lst.new o7 fun q hq => by
    rcases hq with z | z
    · exact RA.lt H6.out.ra q z
    · exact RA.lt Q6.out.ra q z
  have P8 : Hid (PS W3 W8 S4 T5 ka kq n g b (k : Int) (m : Int) B (R00 sec) (R00 sec) N (.slice x7 D.length y7) D) := Lib.hid ⟨h7.after b8, q7.after b8, D5.out, hs8, fun z => by
    rcases z with z | z
    · have := RA.lt h7.ra b z; omega
    · have := RA.lt q7.ra b z; omega, l7.below b8⟩
  clear c0 c1 c2 cD1 o7 b7 h7 q7 l7 hs8 b8 H6 Q6 D5
  go_upto_region 9 with (fail)
  rw [show w7.alloc (.cells #[.int .i64 N, .slice x7 D.length y7] 40) = W8 from hW8.symm]
  clear hW8 hb
  obtain ⟨c0, c1, c2⟩ := P8.out.k.cells
  have HN := HN7.out
  have hn5 : ((n : Nat) : Int) = (k : Int) + (m : Int) := by omega
  have hkb : (k : Int) ≤ 4 := by omega
  have hmb : (m : Int) ≤ 3 := by omega
  have hk1 : 1 ≤ (k : Int) := by omega
  obtain ⟨i1, hi1, hy0, hy1, hy2⟩ := info_parts Tryz.infoBl
  obtain ⟨wm, hmk, om, bm⟩ := Own.make_run (P := Tryz.prog) (T := 42) Tryz.underlying42 hi1 hy0 hy1 hy2 rfl W8 n (by omega) (by omega)
  rw [hn5] at hmk
  obtain ⟨p, hp⟩ : ∃ p, W8.heap.size = p := ⟨_, rfl⟩
  rw [hp] at hmk om
  have HP : Hid (W3.heap.size ≤ p ∧ g ≠ p ∧ b ≠ p ∧ ∀ q, (Value.slice x7 D.length y7).ownBlock = some q → q ≠ p) := Lib.hid ⟨by rw [← hp]; exact P8.out.k.ra.b.size, by have := P8.out.k.gl; omega, by have := P8.out.bl; omega, fun q hq => by have := (P8.out.dl.n q hq).1; omega⟩
  have G0 : Hid (GN wm (UU S4 T5) p n (List.replicate n false)) := Lib.hid ⟨by simpa [bv] using om, fun z => by
    rcases z with z | z
    · have := RA.lt P8.out.k.ra p z; omega
    · have := RA.lt P8.out.q.ra p z; omega⟩
  have Pm := Lib.hid (P8.out.after bm)
  clear hn5 HN bm om hp P8 hi1 hy0 hy1 hy2
  go_upto_block 0 with (fail)
  clear c0 c1 c2 hmk
  go_cut [19] from 74 to 95 (fun _ wx => ∃ ins : List Bool, ins.length = n ∧ PS W3 wx S4 T5 ka kq n g b (k : Int) (m : Int) B (R00 sec) (R00 sec) N (.slice x7 D.length y7) D ∧ GN wx (UU S4 T5) p n ins)
  case first =>
    go_wp2_with (fail)
    go_loopw [19] (fun t wr => ∃ (i : Nat) (ins : List Bool), i ≤ l2.length ∧ i ≤ 20 ∧ t = .int .i64 (i : Int) ∧ ins.length = n ∧ PS W3 wr S4 T5 ka kq n g b (k : Int) (m : Int) B (R00 sec) (R00 sec) N (.slice x7 D.length y7) D ∧ GN wr (UU S4 T5) p n ins) (fun t _ => l2.length - (intOf t).toNat)
    case atStart => exact ⟨0, List.replicate n false, Nat.zero_le _, by omega, rfl, List.length_replicate, Pm.out, G0.out⟩
    case round =>
      clear Pm G0
      obtain ⟨i, ins, hi, hi20, rfl, hln, h, hgn⟩ := hrel
      rename World => wr
      by_cases hlt : i < l2.length ∧ i < 20
      · obtain ⟨hlt, h20⟩ := hlt
        have y1 : (i : Int) < (l2.length : Int) := by omega
        have y2 : (i : Int) < 20 := by omega
        obtain ⟨va', vc', hv', hit⟩ := Reads.items HRl2.out
        obtain ⟨rfl, rfl⟩ : pal2 = va' ∧ pcl2 = vc' := by injection hv' with z1 z2 z3; exact ⟨z1, z3⟩
        clear hv'
        obtain ⟨cb, co, rfl, hcb2, hc0⟩ := hit i hlt
        obtain ⟨x, hx⟩ : ∃ x, l2[i] = x := ⟨_, rfl⟩
        have hxr := HFl2.out l2[i] (List.getElem_mem hlt)
        rw [hx] at hc0 hxr
        have cx : wr.cell? ⟨cb, co + i, none⟩ = some (.int .i64 x) := ((HB3.out.trans (h.k.ra.b.mono HB3.out.size)).cell (p := ⟨cb, co + i, none⟩) hcb2).trans hc0
        have hpx := pk_rng x ((k : Int) + (m : Int)) (by omega)
        have cP := fun W => pick13_any x ((k : Int) + (m : Int)) W hxr.1 hxr.2 (by omega) (by omega)
        obtain ⟨j, hj⟩ := Int.eq_ofNat_of_zero_le hpx.1
        rw [hj] at hpx cP
        have HN := HN7.out
        have hjn : j < n := by omega
        have hjI : (j : Int) < (n : Int) := by omega
        have P2 := HP.out
        have fz := hgn.fro j
        have cj := hgn.cell (i := j) (by rw [hln]; exact hjn)
        have hlS : Hid ((ins.set j true).length = n) := Lib.hid (by rw [List.length_set]; exact hln)
        have hk4 : k ≤ 4 := HN.2.1
        have hm3 : m ≤ 3 := HN.2.2.1
        have hd0 := h.after (Below.drewZ wr)
        have gd0 := hgn.after (Below.drewZ wr)
        have FB : Hid (PS W3 (wr.drew.setCell ⟨p, j, none⟩ (.bool true)) S4 T5 ka kq n g b (k : Int) (m : Int) B (R00 sec) (R00 sec) N (.slice x7 D.length y7) D ∧ GN (wr.drew.setCell ⟨p, j, none⟩ (.bool true)) (UU S4 T5) p n (ins.set j true)) := Lib.hid ⟨hd0.put P2.1 P2.2.1 P2.2.2.1 hgn.n P2.2.2.2 j (.bool true), gd0.put j⟩
        have HG := Lib.hid hd0.k.gb
        have HS := Lib.hid FB.out.1.k.gb
        have hst : (Instr.storeAt 4 (.pointer (some ⟨p, j, none⟩)) (.bool true)).run Tryz.prog wr.drew = .ok () (wr.drew.setCell ⟨p, j, none⟩ (.bool true)) := bool_store (gd0.cell (i := j) (by rw [hln]; exact hjn)) (gd0.fro j)
        have cx2 : (wr.drew.setCell ⟨p, j, none⟩ (.bool true)).cell? ⟨cb, co + i, none⟩ = some (.int .i64 x) := (HB3.out.trans (FB.out.1.k.ra.b.mono HB3.out.size)).cell (p := ⟨cb, co + i, none⟩) hcb2 |>.trans hc0
        clear hit hcb2 hc0 hx hj h hgn HN hpx P2 hd0 gd0 hln hxr cj fz
        go_upto_region 13 with (fail)
        refine wp_region_held_drew (S := fun W => W.heap[g]? = some (.cells #[.int .i64 (k : Int), .int .i64 (m : Int), .int .i64 B] 23 (0, 0)) ∧ W.cell? ⟨cb, co + i, none⟩ = some (.int .i64 x)) (by kernel_rfl) ⟨HG.out, cx⟩ (fun hHeld => ?_)
        refine wpAnyH_takeD (i := 0) (some 84) rfl (by kernel_rfl) (by kernel_rfl) (by kernel_rfl) rfl (fun _ _ _ h => h) (Or.inl ⟨by rfl, by rintro w ⟨hs1, hs2⟩; first | rfl | (go_simp; done) | (go_simp; rfl)⟩) (by assumption) ?_
        simp only [Act.put, List.setIfInBounds_toArray, List.set_cons_zero, List.set_cons_succ]
        refine wpAnyH_takeD (i := 1) (some 85) rfl (by kernel_rfl) (by kernel_rfl) (by kernel_rfl) rfl (fun _ _ _ h => h) (Or.inl ⟨by rfl, by rintro w ⟨hs1, hs2⟩; first | rfl | (go_simp; done) | (go_simp; rfl)⟩) (by assumption) ?_
        simp only [Act.put, List.setIfInBounds_toArray, List.set_cons_zero, List.set_cons_succ]
        refine wpAnyH_takeD (i := 2) (some 86) rfl (by kernel_rfl) (by kernel_rfl) (by kernel_rfl) rfl (fun _ _ _ h => h) (Or.inl ⟨by rfl, by rintro w ⟨hs1, hs2⟩; first | rfl | (go_simp; done) | (go_simp; rfl)⟩) (by assumption) ?_
        simp only [Act.put, List.setIfInBounds_toArray, List.set_cons_zero, List.set_cons_succ]
        refine wpAnyH_takeD (i := 3) (v := .pointer (some ⟨cb, co + i, none⟩)) (some 87) rfl (by kernel_rfl) (by kernel_rfl) (by kernel_rfl) rfl (fun _ _ _ h => h) (yieldsIf_index_run (by rfl) _ _ rfl rfl rfl (fun W => slc_at Tryz.underlying24 (fun W => by kernel_rfl) cb co _ _ i hlt W)) (by assumption) ?_
        simp only [Act.put, List.setIfInBounds_toArray, List.set_cons_zero, List.set_cons_succ]
        refine wpAnyH_takeD (i := 4) (v := .int .i64 x) (some 88) rfl (by kernel_rfl) (by kernel_rfl) (by kernel_rfl) rfl (fun _ _ _ h => h) (yieldsIf_load_run (by rfl) _ rfl rfl (fun _ hs => cell_load (fun W => by kernel_rfl) hs.2)) (by assumption) ?_
        simp only [Act.put, List.setIfInBounds_toArray, List.set_cons_zero, List.set_cons_succ]
        refine wpAnyH_takeD (i := 5) (v := .pointer (some ⟨g, 0, none⟩)) (some 89) rfl (by kernel_rfl) (by kernel_rfl) (by kernel_rfl) rfl (fun _ _ _ h => h) (Or.inl ⟨by rfl, by rintro w ⟨hs1, hs2⟩; first | rfl | (go_simp; done) | (go_simp; rfl)⟩) (by assumption) ?_
        simp only [Act.put, List.setIfInBounds_toArray, List.set_cons_zero, List.set_cons_succ]
        refine wpAnyH_takeD (i := 6) (v := .int .i64 (k : Int)) (some 90) rfl (by kernel_rfl) (by kernel_rfl) (by kernel_rfl) rfl (fun _ _ _ h => h) (yieldsIf_load_run (by rfl) _ rfl rfl (fun _ hs => cell_load (fun W => by kernel_rfl) (heap_cell hs.1 rfl))) (by assumption) ?_
        simp only [Act.put, List.setIfInBounds_toArray, List.set_cons_zero, List.set_cons_succ]
        refine wpAnyH_takeD (i := 7) (v := .pointer (some ⟨g, 1, none⟩)) (some 91) rfl (by kernel_rfl) (by kernel_rfl) (by kernel_rfl) rfl (fun _ _ _ h => h) (Or.inl ⟨by rfl, by rintro w ⟨hs1, hs2⟩; first | rfl | (go_simp; done) | (go_simp; rfl)⟩) (by assumption) ?_
        simp only [Act.put, List.setIfInBounds_toArray, List.set_cons_zero, List.set_cons_succ]
        refine wpAnyH_takeD (i := 8) (v := .int .i64 (m : Int)) (some 92) rfl (by kernel_rfl) (by kernel_rfl) (by kernel_rfl) rfl (fun _ _ _ h => h) (yieldsIf_load_run (by rfl) _ rfl rfl (fun _ hs => cell_load (fun W => by kernel_rfl) (heap_cell hs.1 rfl))) (by assumption) ?_
        simp only [Act.put, List.setIfInBounds_toArray, List.set_cons_zero, List.set_cons_succ]
        refine wpAnyH_takeD (i := 9) (v := .int .i64 ((k : Int) + (m : Int))) (some 93) rfl (by kernel_rfl) (by kernel_rfl) (by kernel_rfl) rfl (fun _ _ _ h => h) (yieldsIf_bin_run (by rfl) _ _ rfl rfl rfl (fun W => by rfl) (fun W => sum_km k m hk4 hm3 W)) (by assumption) ?_
        simp only [Act.put, List.setIfInBounds_toArray, List.set_cons_zero, List.set_cons_succ]
        refine wpAnyH_ready (rs := [10]) (by kernel_rfl) (by simp) ?_
        refine AllReadyH.cons rfl (fun K hK => ?_) AllReadyH.nil
        go_simp
        refine (cP wr.drew).mono ?_
        rintro e w9x ⟨rfl, rfl⟩
        refine hK.out _ _ ⟨HG.out, cx⟩ (fun hHeld => ?_)
        clear hK
        try simp only [Act.put, List.setIfInBounds_toArray, List.set_cons_zero, List.set_cons_succ]
        refine wpAnyH_takeD (i := 11) (v := .pointer (some ⟨p, j, none⟩)) (some 95) rfl (by kernel_rfl) (by kernel_rfl) (by kernel_rfl) rfl (fun _ _ _ h => h) (yieldsIf_index_run (by rfl) _ _ rfl rfl rfl (fun W => slc_at0 Tryz.underlying42 (fun W => by kernel_rfl) p _ _ j hjn W)) (by assumption) ?_
        simp only [Act.put, List.setIfInBounds_toArray, List.set_cons_zero, List.set_cons_succ]
        refine wpAnyH_ready (rs := [12]) (by kernel_rfl) (by simp) ?_
        refine AllReadyH.cons rfl (fun K hK => ?_) AllReadyH.nil
        refine step_store_run (d := none) hst _ _ rfl rfl rfl rfl rfl ?_
        refine hK.out _ _ ⟨HS.out, cx2⟩ (fun hHeld => ?_)
        clear hK
        try simp only [Act.put, List.setIfInBounds_toArray, List.set_cons_zero, List.set_cons_succ]
        refine wpAnyH_done (by kernel_rfl) ?_ _
        go_wp2_with (fail)
        go_roundw
        case rel => exact ⟨i + 1, ins.set j true, by omega, by omega, by go_num, hlS.out, FB.out.1, FB.out.2⟩
        case measure => simp [intOf]; omega
      · by_cases hw : i < l2.length
        · have y1 : (i : Int) < (l2.length : Int) := by omega
          have y2 : ¬ ((i : Int) < 20) := by omega
          clear hw hlt
          have HF := Lib.hid (And.intro hln (And.intro h hgn))
          clear hln h hgn
          go_wp2_with (fail)
          go_meet
          exact ⟨ins, HF.out⟩
        · have y1 : ¬ ((i : Int) < (l2.length : Int)) := by omega
          clear hw hlt
          have HF := Lib.hid (And.intro hln (And.intro h hgn))
          clear hln h hgn
          go_wp2_with (fail)
          go_meet
          exact ⟨ins, HF.out⟩
  case rest =>
  obtain ⟨ins, hln, h, hgn⟩ := hcut
  rename World => wr
  have HL := Lib.hid hln
  have HPr := Lib.hid h
  have HGN := Lib.hid hgn
  clear hln h hgn Pm G0
  go_wp2_with (fail)
  go_loopw [20, 21, 22] (fun ux vx t wx => ∃ (i : Nat) (u v : Value), u = ux ∧ v = vx ∧ i ≤ n ∧ t = .int .i64 (i : Int) ∧ Own wx wr.heap.size 3 u ((goneL ins i).map (.int .i64)) ∧ Own wx wr.heap.size 3 v ((leftL ins i).map (.int .i64)) ∧ Apart u v ∧ Below wr.heap.size wr wx) (fun _ _ t _ => n - (intOf t).toNat)
  case atStart => exact ⟨0, _, _, rfl, rfl, Nat.zero_le _, rfl, Own.nil _ _ _, Own.nil _ _ _, Apart.nil _, Below.refl _ _⟩
  case round =>
    obtain ⟨z, u, v, rfl, rfl, hz, rfl, ho, hv, hap0, hB⟩ := hrel
    rename World => wx
    obtain ⟨c0, c1, c2⟩ := (HPr.out.after hB).k.cells
    have HN := HN7.out
    have hgl : (goneL ins z).length ≤ 7 := by have := gone_left ins z; omega
    have hll : (leftL ins z).length ≤ 7 := by have := gone_left ins z; omega
    by_cases hz2 : z < n
    · have z1 : (z : Int) < (k : Int) + (m : Int) := by omega
      have z2 : (z : Int) < (n : Int) := by omega
      have cj := (HGN.out.after hB).cell (i := z) (by rw [HL.out]; exact hz2)
      have hsu := goneL_succ ins z
      have hsl := leftL_succ ins z
      obtain ⟨i3, q1, q2, q3, q4⟩ := info_parts Tryz.infoI
      by_cases hgj : ins.getD z false = true
      · rw [hgj] at cj
        rw [if_pos hgj] at hsu hsl
        obtain ⟨v8, w8, hap, o8, b8, kp8, ow8⟩ := Own.pushA (P := Tryz.prog) (T := 24) Tryz.underlying24 q1 q2 q3 q4 rfl ho (.int .i64 (z : Int)) rfl hB.size (by rw [List.length_map]; omega) (by rw [List.length_map]; omega)
        have hnx : (goneL ins z).map (Value.int .i64) ++ [.int .i64 (z : Int)] = (goneL ins (z + 1)).map (Value.int .i64) := by rw [hsu, List.map_append]; rfl
        rw [hnx] at o8
        rw [← hsl] at hv
        have ov := hv.kept kp8 hap0.symm
        have ha8 : Apart v8 v := fun q e1 e2 => by
          rcases ow8 with e | e
          · exact hap0 q (by rw [← e]; exact e1) e2
          · rw [e] at e1
            injection e1 with e1
            have := (hv.o.lt q e2).2
            omega
        have HO := Lib.hid (And.intro o8 (And.intro ov (And.intro ha8 (hB.trans b8))))
        clear o8 b8 hnx ho hB hsu HN q1 q2 q3 q4 hv ov ha8 kp8 ow8 hsl hap0
        go_wp2_with (at_builtin; refine wpList_append_run hap _ _ rfl rfl rfl rfl rfl ?_)
        go_roundw
        case rel => exact ⟨z + 1, _, _, rfl, rfl, by omega, by go_num, HO.out.1, HO.out.2.1, HO.out.2.2.1, HO.out.2.2.2⟩
        case measure => simp [intOf]; omega
      · rw [if_neg hgj] at hsu hsl
        rw [show ins.getD z false = false by simpa using hgj] at cj
        obtain ⟨v8, w8, hap, o8, b8, kp8, ow8⟩ := Own.pushA (P := Tryz.prog) (T := 24) Tryz.underlying24 q1 q2 q3 q4 rfl hv (.int .i64 (z : Int)) rfl hB.size (by rw [List.length_map]; omega) (by rw [List.length_map]; omega)
        have hnx : (leftL ins z).map (Value.int .i64) ++ [.int .i64 (z : Int)] = (leftL ins (z + 1)).map (Value.int .i64) := by rw [hsl, List.map_append]; rfl
        rw [hnx] at o8
        rw [← hsu] at ho
        have ov := ho.kept kp8 hap0
        have ha8 : Apart u v8 := fun q e1 e2 => by
          rcases ow8 with e | e
          · exact hap0 q e1 (by rw [← e]; exact e2)
          · rw [e] at e2
            injection e2 with e2
            have := (ho.o.lt q e1).2
            omega
        have HO := Lib.hid (And.intro ov (And.intro o8 (And.intro ha8 (hB.trans b8))))
        clear o8 b8 hnx ho hB hsu HN q1 q2 q3 q4 hv ov ha8 kp8 ow8 hsl hap0
        go_wp2_with (at_builtin; refine wpList_append_run hap _ _ rfl rfl rfl rfl rfl ?_)
        go_roundw
        case rel => exact ⟨z + 1, _, _, rfl, rfl, by omega, by go_num, HO.out.1, HO.out.2.1, HO.out.2.2.1, HO.out.2.2.2⟩
        case measure => simp [intOf]; omega
    · obtain rfl : z = n := by omega
      have z1 : ¬ ((z : Int) < (k : Int) + (m : Int)) := by omega
      clear hz2
      obtain ⟨R1, eA, eB, oR1⟩ := HPM.out ins
      have HAB := Lib.hid (And.intro eA (And.intro eB oR1))
      have hUr : ∀ q, UU S4 T5 q → q < wr.heap.size := fun q hq => by
        rcases hq with y | y
        · exact RA.lt HPr.out.k.ra q y
        · exact RA.lt HPr.out.q.ra q y
      have lo : Lst wx (UU S4 T5) u _ := Lst.own ho fun q hq y => by have := (ho.o.lt q hq).1; have := hUr q y; omega
      have lv : Lst wx (UU S4 T5) v _ := Lst.own hv fun q hq y => by have := (hv.o.lt q hq).1; have := hUr q y; omega
      have PX := Lib.hid (HPr.out.after hB)
      have LO := Lib.hid lo
      have LV := Lib.hid lv
      have hld := stripe_load PX.out.s
      obtain ⟨xo, yo, hfo⟩ := ho.reads.form
      rw [List.length_map] at hfo
      subst hfo
      obtain ⟨xv, yv, hfv⟩ := hv.reads.form
      rw [List.length_map] at hfv
      subst hfv
      have cW1 := st_write PX.out.k (rok_00 z sec) (by decide) HAB.out.1 (LO.out.mono fun q y => .inl y) (by omega) (PX.out.dl.mono fun q y => .inl y) f1.out (by have := hd1.out; have := HN7.out; omega)
      clear eA eB oR1 hUr lo lv ho hv hB hap0 HPr HGN HN
      go_wp2_with (with_reducible refine wpList_load_run hld rfl _ rfl rfl ?_)
      clear c0 c1 c2 hld
      refine cW1.mono ?_
      rintro e w21 ⟨vw1, rfl, S21, s21, a21, ow21, nw21⟩
      have P21 := Lib.hid (PX.out.stpK s21 a21)
      have LV21 := Lib.hid (LV.out.stp (s21.left T5))
      have cW2 := st_write P21.out.k HAB.out.2.2 (by decide) HAB.out.2.1 (LV21.out.mono fun q y => .inl y) (by omega) (P21.out.dl.mono fun q y => .inl y) f1.out (by have := hd1.out; have := HN7.out; omega)
      clear cW1 s21 a21 ow21 nw21 PX LO LV
      obtain ⟨c0, c1, c2⟩ := P21.out.k.cells
      have hld := stripe_load P21.out.s
      go_wp2_with (with_reducible refine wpList_load_run hld rfl _ rfl rfl ?_)
      clear c0 c1 c2 hld
      refine cW2.mono ?_
      rintro e w22 ⟨vw2, rfl, S22, s22, a22, ow22, nw22⟩
      have P22 := Lib.hid (P21.out.stpK s22 a22)
      clear cW2 s22 a22 ow22 nw22 P21 LV21 hgl hll
      go_upto_region 24 with (fail)
      refine wp_region_held_drew (S := fun W => W.heap[g]? = some (.cells #[.int .i64 (k : Int), .int .i64 (m : Int), .int .i64 B] 23 (0, 0)) ∧ W.heap[b]? = some (.cells #[.int .i64 N, .slice x7 D.length y7] 40 (0, 0))) (by kernel_rfl) ⟨(P22.out.after (Below.drewZ w22)).k.gb, (P22.out.after (Below.drewZ w22)).s⟩ (fun hHeld => ?_)
      refine wpAnyH_takeD (i := 0) (some 134) rfl (by kernel_rfl) (by kernel_rfl) (by kernel_rfl) rfl (fun _ _ _ h => h) (Or.inl ⟨by rfl, by rintro w ⟨hs1, hs2⟩; first | rfl | (go_simp; done) | (go_simp; rfl)⟩) (by assumption) ?_
      simp only [Act.put, List.setIfInBounds_toArray, List.set_cons_zero, List.set_cons_succ]
      refine wpAnyH_takeD (i := 1) (v := .agg #[.int .i64 (k : Int), .int .i64 (m : Int), .int .i64 B]) (some 135) rfl (by kernel_rfl) (by kernel_rfl) (by kernel_rfl) rfl (fun _ _ _ h => h) (yieldsIf_load_run (by rfl) _ rfl rfl (fun _ hs => geo_load hs.1)) (by assumption) ?_
      simp only [Act.put, List.setIfInBounds_toArray, List.set_cons_zero, List.set_cons_succ]
      refine wpAnyH_takeD (i := 2) (v := .agg #[.int .i64 (k : Int), .int .i64 (m : Int), .int .i64 B]) (some 136) rfl (by kernel_rfl) (by kernel_rfl) (by kernel_rfl) rfl (fun _ _ _ h => h) (yieldsIf_load_run (by rfl) _ rfl rfl (fun _ hs => geo_load hs.1)) (by assumption) ?_
      simp only [Act.put, List.setIfInBounds_toArray, List.set_cons_zero, List.set_cons_succ]
      refine wpAnyH_takeD (i := 4) (v := .agg #[.int .i64 N, .slice x7 D.length y7]) (some 138) rfl (by kernel_rfl) (by kernel_rfl) (by kernel_rfl) rfl (fun _ _ _ h => h) (yieldsIf_load_run (by rfl) _ rfl rfl (fun _ hs => stripe_load hs.2)) (by assumption) ?_
      simp only [Act.put, List.setIfInBounds_toArray, List.set_cons_zero, List.set_cons_succ]
      refine wpAnyH_ready (rs := [3]) (by kernel_rfl) (by simp) ?_
      refine AllReadyH.cons rfl (fun K hK => ?_) AllReadyH.nil
      go_simp
      refine (CAll.out w22.drew).mono ?_
      rintro e z22 ⟨va22, rfl, oa22, ba22⟩
      have bb22 := (Below.drewZ w22).trans ba22
      have p22 := P22.out.after bb22
      refine hK.out _ _ ⟨p22.k.gb, p22.s⟩ (fun hHeld => ?_)
      clear hK
      try simp only [Act.put, List.setIfInBounds_toArray, List.set_cons_zero, List.set_cons_succ]
      have cW := st_write p22.q (rok_00 z sec) (by decide) HM.out.1 (Lst.new oa22 fun q hq => RA.lt P22.out.q.ra q hq) (by rw [allL_len]; have := HN7.out.1; omega) (p22.dl.mono fun q y => .inr y) f1.out (by have := hd1.out; have := HN7.out; omega)
      refine wpAnyH_ready (rs := [5]) (by kernel_rfl) (by simp) ?_
      refine AllReadyH.cons rfl (fun K hK => ?_) AllReadyH.nil
      go_simp
      refine cW.mono ?_
      rintro e w23 ⟨vw23, rfl, T23, s23, a23, ow23, nw23⟩
      have p23 := p22.stpQ s23 a23
      refine hK.out _ _ ⟨p23.k.gb, p23.s⟩ (fun hHeld => ?_)
      clear hK
      try simp only [Act.put, List.setIfInBounds_toArray, List.set_cons_zero, List.set_cons_succ]
      refine wpAnyH_takeD (i := 6) (v := .tuple #[vw23, .int .i64 0]) (some 133) rfl (by kernel_rfl) (by kernel_rfl) (by kernel_rfl) rfl (fun _ _ _ h => h) (Or.inl ⟨by rfl, by rintro w ⟨hs1, hs2⟩; first | rfl | (go_simp; done) | (go_simp; rfl)⟩) (by assumption) ?_
      simp only [Act.put, List.setIfInBounds_toArray, List.set_cons_zero, List.set_cons_succ]
      refine wpAnyH_takeD (i := 7) (v := vw23) (some 140) rfl (by kernel_rfl) (by kernel_rfl) (by kernel_rfl) rfl (fun _ _ _ h => h) (Or.inl ⟨by rfl, by rintro w ⟨hs1, hs2⟩; first | rfl | (go_simp; done) | (go_simp; rfl)⟩) (by assumption) ?_
      simp only [Act.put, List.setIfInBounds_toArray, List.set_cons_zero, List.set_cons_succ]
      refine wpAnyH_takeD (i := 8) (v := .int .i64 0) (some 141) rfl (by kernel_rfl) (by kernel_rfl) (by kernel_rfl) rfl (fun _ _ _ h => h) (Or.inl ⟨by rfl, by rintro w ⟨hs1, hs2⟩; first | rfl | (go_simp; done) | (go_simp; rfl)⟩) (by assumption) ?_
      simp only [Act.put, List.setIfInBounds_toArray, List.set_cons_zero, List.set_cons_succ]
      refine wpAnyH_takeD (i := 9) (v := vw23) (some 27) rfl (by kernel_rfl) (by kernel_rfl) (by kernel_rfl) rfl (fun _ _ _ h => h) (Or.inl ⟨by rfl, by rintro w ⟨hs1, hs2⟩; first | rfl | (go_simp; done) | (go_simp; rfl)⟩) (by assumption) ?_
      simp only [Act.put, List.setIfInBounds_toArray, List.set_cons_zero, List.set_cons_succ]
      refine wpAnyH_takeD (i := 10) (v := .int .i64 0) (some 28) rfl (by kernel_rfl) (by kernel_rfl) (by kernel_rfl) rfl (fun _ _ _ h => h) (Or.inl ⟨by rfl, by rintro w ⟨hs1, hs2⟩; first | rfl | (go_simp; done) | (go_simp; rfl)⟩) (by assumption) ?_
      simp only [Act.put, List.setIfInBounds_toArray, List.set_cons_zero, List.set_cons_succ]
      refine wpAnyH_done (by kernel_rfl) ?_ _
      have P23 := Lib.hid p23
      clear hHeld cW p23 s23 a23 ow23 nw23 p22 bb22 ba22 oa22 P22
      obtain ⟨c0, c1, c2⟩ := P23.out.k.cells
      go_wp2_with (fail)
      clear c0 c1 c2
      refine (CAll.out w23).mono ?_
      rintro e w24 ⟨va24, rfl, o24, b24⟩
      have L24 : Lst w24 S22 va24 _ := Lst.new o24 fun q hq => RA.lt P23.out.k.ra q hq
      have P24 := Lib.hid (P23.out.after b24)
      have cF := st_flush P24.out.k HM.out.2.2.1 (by decide) HM.out.2.1 L24 (by rw [allL_len]; have := HN7.out.1; omega)
      clear P23 o24 b24 L24
      go_wp2_with (fail)
      refine cF.mono ?_
      rintro e w25 ⟨vf25, rfl, S25, s25, a25, of25, nf25⟩
      have P25 := Lib.hid (P24.out.stpK s25 a25)
      clear cF s25 a25 of25 nf25 P24
      obtain ⟨c0, c1, c2⟩ := P25.out.k.cells
      go_wp2_with (fail)
      clear c0 c1 c2
      refine (CAll.out w25).mono ?_
      rintro e w26 ⟨va26, rfl, o26, b26⟩
      have L26 : Lst w26 T23 va26 _ := Lst.new o26 fun q hq => RA.lt P25.out.q.ra q hq
      have P26 := Lib.hid (P25.out.after b26)
      have cF := st_flush P26.out.q HM.out.2.2.1 (by decide) HM.out.2.1 L26 (by rw [allL_len]; have := HN7.out.1; omega)
      clear P25 o26 b26 L26
      go_wp2_with (fail)
      refine cF.mono ?_
      rintro e w27 ⟨vf27, rfl, T27, s27, a27, of27, nf27⟩
      have P27 := Lib.hid (P26.out.stpQ s27 a27)
      clear cF s27 a27 of27 nf27 P26
      go_wp2_with (fail)
      go_loopw [10, 29] (fun _ t wy => ∃ i : Nat, i ≤ z ∧ t = .int .i64 (i : Int) ∧ Below w27.heap.size w27 wy) (fun _ t _ => z - (intOf t).toNat)
      case atStart => exact ⟨0, Nat.zero_le _, rfl, Below.refl _ _⟩
      case round =>
        obtain ⟨i, hi, rfl, hB⟩ := hrel
        rename World => wy
        have P28 := Lib.hid (P27.out.after hB)
        obtain ⟨c0, c1, c2⟩ := P28.out.k.cells
        have HN := HN7.out
        by_cases hlt : i < z
        · have y1 : (i : Int) < (k : Int) + (m : Int) := by omega
          clear HN
          have cI1 := rt_image P28.out.k.ra (i : Int)
          have hI := Lib.hid (Nat.le_trans (HIM.out (i : Int)) (show 1000 ≤ 140737488355328 by decide))
          obtain ⟨L, hL⟩ : ∃ L, imR z Q2 (i : Int) = L := ⟨_, rfl⟩
          rw [hL] at cI1 hI
          have HL2 := Lib.hid hL
          clear hL
          have HBy := Lib.hid hB
          clear hB
          go_wp2_with (fail)
          clear c0 c1 c2
          refine cI1.mono ?_
          rintro e wa ⟨va, rfl, ba, oa⟩
          have cI2 := rt_image (P28.out.after ba).q.ra (i : Int)
          rw [HL2.out] at cI2
          have OA := Lib.hid oa
          have BA := Lib.hid ba
          clear oa ba cI1
          go_wp2_with (fail)
          refine cI2.mono ?_
          rintro e wb ⟨vb, rfl, bb, ob⟩
          have cS := same_any va vb L L wb (OA.out.reads.below bb) ob.reads hI.out hI.out
          rw [decide_eq_true rfl] at cS
          have BB := Lib.hid (HBy.out.trans ((BA.out.trans (bb.mono BA.out.size)).mono HBy.out.size))
          clear cI2 bb ob
          go_wp2_with (fail)
          refine cS.mono ?_
          rintro e wc ⟨rfl, bc, -⟩
          have BC := Lib.hid (BB.out.trans (bc.mono BB.out.size))
          clear cS bc
          go_wp2_with (fail)
          go_roundw
          case rel => exact ⟨i + 1, by omega, by go_num, BC.out⟩
          case measure => simp [intOf]; omega
        · obtain rfl : i = z := by omega
          have y1 : ¬ ((i : Int) < (k : Int) + (m : Int)) := by omega
          clear hB P27 hlt HN
          go_wp2_with (fail)
          clear c0 c1 c2
          refine (CAll.out wy).mono ?_
          rintro e w30 ⟨u30, rfl, o30, b30⟩
          have P30 := Lib.hid (P28.out.after b30)
          have hUy : Hid (∀ q, S25 q → q < wy.heap.size) := Lib.hid fun q hq => RA.lt P28.out.k.ra q hq
          have O30 := Lib.hid o30
          have HYZ := Lib.hid b30.size
          clear P28 o30 b30
          go_wp2_with (fail)
          go_loopw [30, 31, 32] (fun ux t _ wz => ∃ (j : Nat) (xs : List Int) (u : Value), u = ux ∧ j + xs.length = i ∧ t = .int .i64 (j : Int) ∧ k ≤ xs.length ∧ (∀ x ∈ xs, 0 ≤ x ∧ x < (i : Int)) ∧ xs.Nodup ∧ Own wz wy.heap.size 3 u (xs.map (.int .i64)) ∧ Below w30.heap.size w30 wz) (fun _ t _ _ => i - (intOf t).toNat)
          case atStart => exact ⟨0, allL i, _, rfl, by rw [allL_len]; omega, rfl, by rw [allL_len]; omega, fun x hx => allL_mem.1 hx, allL_nodup, O30.out, Below.refl _ _⟩
          case round =>
            clear O30
            obtain ⟨j, xs, u, rfl, hjx, rfl, hkx, hrg, hnd, ho, hB⟩ := hrel
            rename World => wz
            obtain ⟨c0, c1, c2⟩ := (P30.out.after hB).k.cells
            obtain ⟨xu, yu, hfu⟩ := ho.reads.form
            rw [List.length_map] at hfu
            subst hfu
            have hx7 : xs.length ≤ 7 := by have := HN7.out; omega
            by_cases hlt : k < xs.length
            · have y2 : (k : Int) < (xs.length : Int) := by omega
              have HR4 := Lib.hid (And.intro hrg (And.intro hnd (And.intro ho hB)))
              have hj7 : j ≤ 7 := by have := HN7.out; omega
              have hx1 : 1 ≤ (xs.length : Int) := by have := HN7.out; omega
              have hjx' := Lib.hid hjx
              have cby : j < l3.length → ∃ cb co, pal3 = some ⟨cb, co, none⟩ ∧ wz.cell? ⟨cb, co + j, none⟩ = some (.int .i64 (l3.getD j 0)) := fun hj => by
                obtain ⟨va', vc', hv', hit⟩ := Reads.items HRl3.out
                obtain ⟨cb, co, e1, e2, e3⟩ := hit j hj
                have ea : pal3 = va' := by injection hv'
                refine ⟨cb, co, ea.trans e1, ?_⟩
                have hw : Below w.heap.size w wz := HB3.out.trans ((P30.out.k.ra.b.trans (hB.mono P30.out.k.ra.b.size)).mono HB3.out.size)
                rw [(hw.cell (p := ⟨cb, co + j, none⟩) e2).trans e3, List.getD_eq_getElem?_getD, List.getElem?_eq_getElem hj]; rfl
              clear hrg hnd ho hB hjx hlt
              by_cases hby : j < l3.length
              · have y3 : (j : Int) < (l3.length : Int) := by omega
                obtain ⟨cb, co, rfl, hcx⟩ := cby hby
                have hxr := HFl3.out (l3.getD j 0) (by rw [List.getD_eq_getElem?_getD, List.getElem?_eq_getElem hby]; exact List.getElem_mem hby)
                generalize l3.getD j 0 = x at *
                have hpx := pk_rng x (xs.length : Int) hx1
                have cP := fun W => pick13_any x (xs.length : Int) W hxr.1 hxr.2 hx1 (by omega)
                obtain ⟨c, hc⟩ := Int.eq_ofNat_of_zero_le hpx.1
                rw [hc] at hpx cP
                have hcx7 : c < xs.length := by omega
                clear hxr hpx hc
                go_wp2_with (fail)
                refine (cP _).mono ?_
                rintro e wz' ⟨rfl, rfl⟩
                clear cP hcx cby c0 c1 c2
                obtain ⟨hrg, hnd, ho, hB⟩ := HR4.out
                obtain ⟨i3, q1, q2, q3, q4⟩ := info_parts Tryz.infoI
                obtain ⟨u1, u2, hu1, hu2, ru1, ru2⟩ := parts_any ho hcx7
                have hsum : ∀ W : World, (binOp .add 3 (.int .i64 (c : Int)) (.int .i64 1)).run Tryz.prog W = .ok (.int .i64 ((c : Int) + 1)) W := sum_one c (by omega)
                obtain ⟨v8, w8, hap, o8, b8, hk8⟩ := Own.pushAll (P := Tryz.prog) (T := 24) Tryz.underlying24 q1 q2 q3 q4 rfl (Own.nil wz.drew wz.heap.size 3) (ru1.below (Below.drew_ wz)) (fun x hx => by
                  obtain ⟨y, _, rfl⟩ := List.mem_map.1 hx; rfl) (Nat.le_refl _) (by rw [List.length_map, List.length_nil, List.length_take]; omega) (by rw [List.length_map, List.length_nil, List.length_take]; omega)
                rw [List.nil_append] at o8
                have b18 := (Below.drew_ wz).trans b8
                obtain ⟨v9, w9, hap9, o9, b9, hk9⟩ := Own.pushAll (P := Tryz.prog) (T := 24) Tryz.underlying24 q1 q2 q3 q4 rfl o8 (ru2.below b18) (fun x hx => by
                  obtain ⟨y, _, rfl⟩ := List.mem_map.1 hx; rfl) b18.size (by rw [List.length_map, List.length_map, List.length_take, List.length_drop]; omega) (by rw [List.length_map, List.length_map, List.length_take, List.length_drop]; omega)
                rw [← List.map_append] at o9
                have b19 := b18.trans b9
                have hey : xs.take c ++ xs.drop (c + 1) = xs.eraseIdx c := (List.eraseIdx_eq_take_drop_succ ..).symm
                have hsubl : (xs.take c ++ xs.drop (c + 1)).Sublist xs := by rw [hey]; exact List.eraseIdx_sublist _ _
                have F9 : Hid ((xs.take c ++ xs.drop (c + 1)).length = xs.length - 1 ∧ (∀ x ∈ xs.take c ++ xs.drop (c + 1), 0 ≤ x ∧ x < (i : Int)) ∧ (xs.take c ++ xs.drop (c + 1)).Nodup ∧ Own w9 wy.heap.size 3 v9 ((xs.take c ++ xs.drop (c + 1)).map (.int .i64)) ∧ Below w30.heap.size w30 w9) := Lib.hid ⟨by rw [List.length_append, List.length_take, List.length_drop]; omega, fun x hx => hrg x (hsubl.subset hx), hnd.sublist hsubl, o9.down (by have := HYZ.out; have := hB.size; omega), hB.trans (b19.mono hB.size)⟩
                clear o8 b8 hk8 o9 b9 hk9 b18 b19 ru1 ru2 hey hsubl hrg hnd ho hB HR4 q1 q2 q3 q4
                go_upto_region 41 with (fail)
                refine wp_region_held_drew (S := fun _ => True) (by kernel_rfl) trivial (fun hHeld => ?_)
                refine wpAnyH_takeD (i := 0) (some 197) rfl (by kernel_rfl) (by kernel_rfl) (by kernel_rfl) rfl (fun _ _ _ h => h) (Or.inl ⟨by rfl, by rintro w hs; first | rfl | (go_simp; done) | (go_simp; rfl)⟩) (by assumption) ?_
                simp only [Act.put, List.setIfInBounds_toArray, List.set_cons_zero, List.set_cons_succ]
                refine wpAnyH_takeD (i := 1) (some 198) rfl (by kernel_rfl) (by kernel_rfl) (by kernel_rfl) rfl (fun _ _ _ h => h) (Or.inl ⟨by rfl, by rintro w hs; first | rfl | (go_simp; done) | (go_simp; rfl)⟩) (by assumption) ?_
                simp only [Act.put, List.setIfInBounds_toArray, List.set_cons_zero, List.set_cons_succ]
                refine wpAnyH_takeD (i := 2) (v := u1) (some 199) rfl (by kernel_rfl) (by kernel_rfl) (by kernel_rfl) rfl (fun _ _ _ h => h) (yieldsIf_hi_run (by rfl) _ _ rfl rfl rfl (fun W => hu1 W)) (by assumption) ?_
                simp only [Act.put, List.setIfInBounds_toArray, List.set_cons_zero, List.set_cons_succ]
                refine wpAnyH_takeD (i := 4) (some 201) rfl (by kernel_rfl) (by kernel_rfl) (by kernel_rfl) rfl (fun _ _ _ h => h) (Or.inl ⟨by rfl, by rintro w hs; first | rfl | (go_simp; done) | (go_simp; rfl)⟩) (by assumption) ?_
                simp only [Act.put, List.setIfInBounds_toArray, List.set_cons_zero, List.set_cons_succ]
                refine wpAnyH_takeD (i := 5) (some 202) rfl (by kernel_rfl) (by kernel_rfl) (by kernel_rfl) rfl (fun _ _ _ h => h) (Or.inl ⟨by rfl, by rintro w hs; first | rfl | (go_simp; done) | (go_simp; rfl)⟩) (by assumption) ?_
                simp only [Act.put, List.setIfInBounds_toArray, List.set_cons_zero, List.set_cons_succ]
                refine wpAnyH_takeD (i := 6) (v := Value.int .i64 ((c : Int) + 1)) (some 203) rfl (by kernel_rfl) (by kernel_rfl) (by kernel_rfl) rfl (fun _ _ _ h => h) (yieldsIf_bin_run (by rfl) _ _ rfl rfl rfl (fun W => by rfl) (fun W => hsum W)) (by assumption) ?_
                simp only [Act.put, List.setIfInBounds_toArray, List.set_cons_zero, List.set_cons_succ]
                refine wpAnyH_takeD (i := 7) (v := u2) (some 204) rfl (by kernel_rfl) (by kernel_rfl) (by kernel_rfl) rfl (fun _ _ _ h => h) (yieldsIf_lo_run (by rfl) _ _ rfl rfl rfl (fun W => hu2 W)) (by assumption) ?_
                simp only [Act.put, List.setIfInBounds_toArray, List.set_cons_zero, List.set_cons_succ]
                refine wpAnyH_ready (rs := [3]) (by kernel_rfl) (by simp) ?_
                refine AllReadyH.cons rfl (fun K hK => ?_) AllReadyH.nil
                refine step_appendD (d := some 200) hap _ _ rfl rfl rfl rfl rfl rfl ?_
                refine hK.out _ _ trivial (fun hHeld => ?_)
                clear hK hap
                try simp only [Act.put, List.setIfInBounds_toArray, List.set_cons_zero, List.set_cons_succ]
                refine wpAnyH_ready (rs := [8]) (by kernel_rfl) (by simp) ?_
                refine AllReadyH.cons rfl (fun K hK => ?_) AllReadyH.nil
                refine step_appendD (d := some 205) hap9 _ _ rfl rfl rfl rfl rfl rfl ?_
                refine hK.out _ _ trivial (fun hHeld => ?_)
                clear hK hap9
                try simp only [Act.put, List.setIfInBounds_toArray, List.set_cons_zero, List.set_cons_succ]
                refine wpAnyH_takeD (i := 9) (some 30) rfl (by kernel_rfl) (by kernel_rfl) (by kernel_rfl) rfl (fun _ _ _ h => h) (Or.inl ⟨by rfl, by rintro w hs; first | rfl | (go_simp; done) | (go_simp; rfl)⟩) (by assumption) ?_
                simp only [Act.put, List.setIfInBounds_toArray, List.set_cons_zero, List.set_cons_succ]
                refine wpAnyH_done (by kernel_rfl) ?_ _
                go_wp2_with (fail)
                go_roundw
                case rel => exact ⟨j + 1, _, _, rfl, by have := F9.out.1; have := hjx'.out; omega, by go_num, by have := F9.out.1; omega, F9.out.2.1, F9.out.2.2.1, F9.out.2.2.2.1, F9.out.2.2.2.2⟩
                case measure => have := hjx'.out; simp [intOf]; omega
              · have y3 : ¬ ((j : Int) < (l3.length : Int)) := by omega
                have hcx7 : 0 < xs.length := by omega
                clear cby
                obtain ⟨hrg, hnd, ho, hB⟩ := HR4.out
                obtain ⟨i3, q1, q2, q3, q4⟩ := info_parts Tryz.infoI
                obtain ⟨u1, u2, hu1, hu2, ru1, ru2⟩ := parts_any ho hcx7
                have hsum : ∀ W : World, (binOp .add 3 (.int .i64 0) (.int .i64 1)).run Tryz.prog W = .ok (.int .i64 1) W := sum_one 0 (by omega)
                replace hu1 : ∀ W : World, (Instr.sliceAt 24 (.slice xu xs.length yu) none (some (.int .i64 0)) none).run Tryz.prog W = .ok u1 W := hu1
                replace hu2 : ∀ W : World, (Instr.sliceAt 24 (.slice xu xs.length yu) (some (.int .i64 1)) none none).run Tryz.prog W = .ok u2 W := hu2
                obtain ⟨v8, w8, hap, o8, b8, hk8⟩ := Own.pushAll (P := Tryz.prog) (T := 24) Tryz.underlying24 q1 q2 q3 q4 rfl (Own.nil wz.drew wz.heap.size 3) (ru1.below (Below.drew_ wz)) (fun x hx => by
                  obtain ⟨y, _, rfl⟩ := List.mem_map.1 hx; rfl) (Nat.le_refl _) (by rw [List.length_map, List.length_nil, List.length_take]; omega) (by rw [List.length_map, List.length_nil, List.length_take]; omega)
                rw [List.nil_append] at o8
                have b18 := (Below.drew_ wz).trans b8
                obtain ⟨v9, w9, hap9, o9, b9, hk9⟩ := Own.pushAll (P := Tryz.prog) (T := 24) Tryz.underlying24 q1 q2 q3 q4 rfl o8 (ru2.below b18) (fun x hx => by
                  obtain ⟨y, _, rfl⟩ := List.mem_map.1 hx; rfl) b18.size (by rw [List.length_map, List.length_map, List.length_take, List.length_drop]; omega) (by rw [List.length_map, List.length_map, List.length_take, List.length_drop]; omega)
                rw [← List.map_append] at o9
                have b19 := b18.trans b9
                have hey : xs.take 0 ++ xs.drop (0 + 1) = xs.eraseIdx 0 := (List.eraseIdx_eq_take_drop_succ ..).symm
                have hsubl : (xs.take 0 ++ xs.drop (0 + 1)).Sublist xs := by rw [hey]; exact List.eraseIdx_sublist _ _
                have F9 : Hid ((xs.take 0 ++ xs.drop (0 + 1)).length = xs.length - 1 ∧ (∀ x ∈ xs.take 0 ++ xs.drop (0 + 1), 0 ≤ x ∧ x < (i : Int)) ∧ (xs.take 0 ++ xs.drop (0 + 1)).Nodup ∧ Own w9 wy.heap.size 3 v9 ((xs.take 0 ++ xs.drop (0 + 1)).map (.int .i64)) ∧ Below w30.heap.size w30 w9) := Lib.hid ⟨by rw [List.length_append, List.length_take, List.length_drop]; omega, fun x hx => hrg x (hsubl.subset hx), hnd.sublist hsubl, o9.down (by have := HYZ.out; have := hB.size; omega), hB.trans (b19.mono hB.size)⟩
                clear o8 b8 hk8 o9 b9 hk9 b18 b19 ru1 ru2 hey hsubl hrg hnd ho hB HR4 q1 q2 q3 q4
                go_upto_region 41 with (fail)
                refine wp_region_held_drew (S := fun _ => True) (by kernel_rfl) trivial (fun hHeld => ?_)
                refine wpAnyH_takeD (i := 0) (some 197) rfl (by kernel_rfl) (by kernel_rfl) (by kernel_rfl) rfl (fun _ _ _ h => h) (Or.inl ⟨by rfl, by rintro w hs; first | rfl | (go_simp; done) | (go_simp; rfl)⟩) (by assumption) ?_
                simp only [Act.put, List.setIfInBounds_toArray, List.set_cons_zero, List.set_cons_succ]
                refine wpAnyH_takeD (i := 1) (some 198) rfl (by kernel_rfl) (by kernel_rfl) (by kernel_rfl) rfl (fun _ _ _ h => h) (Or.inl ⟨by rfl, by rintro w hs; first | rfl | (go_simp; done) | (go_simp; rfl)⟩) (by assumption) ?_
                simp only [Act.put, List.setIfInBounds_toArray, List.set_cons_zero, List.set_cons_succ]
                refine wpAnyH_takeD (i := 2) (v := u1) (some 199) rfl (by kernel_rfl) (by kernel_rfl) (by kernel_rfl) rfl (fun _ _ _ h => h) (yieldsIf_hi_run (by rfl) _ _ rfl rfl rfl (fun W => hu1 W)) (by assumption) ?_
                simp only [Act.put, List.setIfInBounds_toArray, List.set_cons_zero, List.set_cons_succ]
                refine wpAnyH_takeD (i := 4) (some 201) rfl (by kernel_rfl) (by kernel_rfl) (by kernel_rfl) rfl (fun _ _ _ h => h) (Or.inl ⟨by rfl, by rintro w hs; first | rfl | (go_simp; done) | (go_simp; rfl)⟩) (by assumption) ?_
                simp only [Act.put, List.setIfInBounds_toArray, List.set_cons_zero, List.set_cons_succ]
                refine wpAnyH_takeD (i := 5) (some 202) rfl (by kernel_rfl) (by kernel_rfl) (by kernel_rfl) rfl (fun _ _ _ h => h) (Or.inl ⟨by rfl, by rintro w hs; first | rfl | (go_simp; done) | (go_simp; rfl)⟩) (by assumption) ?_
                simp only [Act.put, List.setIfInBounds_toArray, List.set_cons_zero, List.set_cons_succ]
                refine wpAnyH_takeD (i := 6) (v := Value.int .i64 1) (some 203) rfl (by kernel_rfl) (by kernel_rfl) (by kernel_rfl) rfl (fun _ _ _ h => h) (yieldsIf_bin_run (by rfl) _ _ rfl rfl rfl (fun W => by rfl) (fun W => hsum W)) (by assumption) ?_
                simp only [Act.put, List.setIfInBounds_toArray, List.set_cons_zero, List.set_cons_succ]
                refine wpAnyH_takeD (i := 7) (v := u2) (some 204) rfl (by kernel_rfl) (by kernel_rfl) (by kernel_rfl) rfl (fun _ _ _ h => h) (yieldsIf_lo_run (by rfl) _ _ rfl rfl rfl (fun W => hu2 W)) (by assumption) ?_
                simp only [Act.put, List.setIfInBounds_toArray, List.set_cons_zero, List.set_cons_succ]
                refine wpAnyH_ready (rs := [3]) (by kernel_rfl) (by simp) ?_
                refine AllReadyH.cons rfl (fun K hK => ?_) AllReadyH.nil
                refine step_appendD (d := some 200) hap _ _ rfl rfl rfl rfl rfl rfl ?_
                refine hK.out _ _ trivial (fun hHeld => ?_)
                clear hK hap
                try simp only [Act.put, List.setIfInBounds_toArray, List.set_cons_zero, List.set_cons_succ]
                refine wpAnyH_ready (rs := [8]) (by kernel_rfl) (by simp) ?_
                refine AllReadyH.cons rfl (fun K hK => ?_) AllReadyH.nil
                refine step_appendD (d := some 205) hap9 _ _ rfl rfl rfl rfl rfl rfl ?_
                refine hK.out _ _ trivial (fun hHeld => ?_)
                clear hK hap9
                try simp only [Act.put, List.setIfInBounds_toArray, List.set_cons_zero, List.set_cons_succ]
                refine wpAnyH_takeD (i := 9) (some 30) rfl (by kernel_rfl) (by kernel_rfl) (by kernel_rfl) rfl (fun _ _ _ h => h) (Or.inl ⟨by rfl, by rintro w hs; first | rfl | (go_simp; done) | (go_simp; rfl)⟩) (by assumption) ?_
                simp only [Act.put, List.setIfInBounds_toArray, List.set_cons_zero, List.set_cons_succ]
                refine wpAnyH_done (by kernel_rfl) ?_ _
                go_wp2_with (fail)
                go_roundw
                case rel => exact ⟨j + 1, _, _, rfl, by have := F9.out.1; have := hjx'.out; omega, by go_num, by have := F9.out.1; omega, F9.out.2.1, F9.out.2.2.1, F9.out.2.2.2.1, F9.out.2.2.2.2⟩
                case measure => have := hjx'.out; simp [intOf]; omega
            · have y2 : ¬ ((k : Int) < (xs.length : Int)) := by omega
              obtain ⟨c0, c1, c2⟩ := (P30.out.after hB).k.cells
              obtain ⟨s0, s1⟩ := (P30.out.after hB).cells
              have eR := HRD.out xs hrg hnd hkx
              have lu : Lst wz S25 (.slice xu xs.length yu) _ := Lst.own ho fun q hq y => by have := (ho.o.lt q hq).1; have := hUy.out q y; omega
              have cR := st_read (P30.out.after hB).k HM.out.2.2.2 (by decide) eR lu (by omega)
              have PZ := Lib.hid (P30.out.after hB)
              clear lu eR hrg hnd ho hB hlt
              go_wp2_with (fail)
              clear c0 c1 c2 s0 s1
              refine cR.mono ?_
              rintro e w40 ⟨vd40, vb40, rfl, od40, ob40, bz40⟩
              obtain ⟨x40, y40, hf40⟩ := od40.reads.form
              rw [show (tx D).length = D.length from List.length_map ..] at hf40
              subst hf40
              obtain ⟨x41, y41, hf41⟩ := ob40.reads.form
              have hf42 : vb40 = .slice x41 0 y41 := hf41
              subst hf42
              have P40 := Lib.hid (PZ.out.after bz40)
              obtain ⟨s0, s1⟩ := P40.out.cells
              have cS := same_any (.slice x40 D.length y40) (.slice x7 D.length y7) D D w40 od40.reads P40.out.dl.r (by have := hd1.out; have := HN7.out; omega) (by have := hd1.out; have := HN7.out; omega)
              rw [decide_eq_true rfl] at cS
              have hw40 := Lib.hid (HB3.out.trans (P40.out.k.ra.b.mono HB3.out.size))
              clear cR od40 ob40 bz40 PZ hf41
              go_wp2_with (fail)
              refine cS.mono ?_
              rintro e w41 ⟨rfl, b41, -⟩
              have hfin := Lib.hid (hw40.out.trans (b41.mono hw40.out.size))
              clear cS b41
              go_wp2_with (fail)
              go_ret
              exact ⟨rfl, hfin.out⟩
end Go.Proofs.YtinceihboaiclaaGreatDoor
