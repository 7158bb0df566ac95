import Derived.Test.YtjgafpkpoppcbaaGreatDoorStrSBy
import Derived.Deep.CutBlock
set_option linter.unusedVariables false
set_option linter.unusedSimpArgs false
namespace Go.Proofs.YtjgafpkpoppcbaaGreatDoor
open Go.RowKit
set_option maxRecDepth 100000
set_option maxHeartbeats 32000000 in
theorem plays13_walk (K0 M0 B0 id0 : Int) (v : Value) (la : List Ac13) (w : World) (ht : Tabs w) (hk : (-9223372036854775808 ≤ K0 ∧ K0 ≤ 9223372036854775807) ∧ (-9223372036854775808 ≤ M0 ∧ M0 ≤ 9223372036854775807) ∧ -9223372036854775808 ≤ B0 ∧ B0 ≤ 9223372036854775807) (hA : Acts13 w v la) :
    Calls Tryz.prog 3 #[.agg #[.int .i64 K0, .int .i64 M0, .int .i64 B0], .int .i64 id0, v] w fun e w' => e = .returned (.bool true) ∧ Below w.heap.size w w' := by
  have hg := fit_right K0 M0 B0
  have cA := aw13_any
  have cF := fun W => fit7_any K0 M0 B0 W hk.1.1 hk.1.2 hk.2.1.1 hk.2.1.2 hk.2.2.1 hk.2.2.2
  have hkm := k_cases hg
  obtain ⟨k, hK⟩ := Int.eq_ofNat_of_zero_le (show 0 ≤ fK K0 by omega)
  obtain ⟨m, hM⟩ := Int.eq_ofNat_of_zero_le (show 0 ≤ fM M0 by omega)
  obtain ⟨B, hB⟩ : ∃ B, fB B0 = B := ⟨_, rfl⟩
  rw [hK, hM, hB] at cF hg hkm
  clear hK hM hB hk
  obtain ⟨sec, hsec⟩ := Int.eq_ofNat_of_zero_le (show 0 ≤ gSectors (k : Int) (m : Int) B by
    have := sectors_eq hg
    have hd := div_rng (K := (k : Int)) (B := B) (by omega) ⟨hkm.2.2.1, hkm.2.2.2⟩
    omega)
  have cRk := fun W => racks_any k m sec B W hg hsec
  have hk9 : k ≤ 4 ∧ m ≤ 3 ∧ 1 ≤ k ∧ 1 ≤ m := by omega
  obtain ⟨n, hn⟩ : ∃ n, k + m = n := ⟨_, rfl⟩
  obtain ⟨T, hT⟩ : ∃ T, gStripes (k : Int) (m : Int) B = T := ⟨_, rfl⟩
  have hTr : 1 ≤ T ∧ T ≤ 200 := by rw [← hT, stripes_eq hg]; exact div_rng (by omega) ⟨hkm.2.2.1, hkm.2.2.2⟩
  have CT : Hid (∀ W, Calls Tryz.prog 23 #[.agg #[.int .i64 (k : Int), .int .i64 (m : Int), .int .i64 B]] W fun e w' => e = .returned (.int .i64 T) ∧ Below W.heap.size W w') := Lib.hid fun W => by rw [← hT]; exact rstripes_any _ _ _ W
  have CRk : Hid (∀ W, Calls Tryz.prog 7 #[.agg #[.int .i64 (k : Int), .int .i64 (m : Int), .int .i64 B]] W (RacksTo W n sec)) := Lib.hid fun W => by rw [← hn]; exact cRk W
  have HN7 : Hid (n ≤ 7 ∧ k ≤ 4 ∧ m ≤ 3 ∧ 1 ≤ k ∧ n = k + m) := Lib.hid (by omega)
  have HTR := Lib.hid hTr
  have hSecI : Hid (∀ N, 0 ≤ N → N < T → ∃ a : Nat, gSector (k : Int) (m : Int) B N = (a : Int) ∧ a ≤ 255) := Lib.hid fun N h0 h1 => by
    obtain ⟨a, e1, e2, _⟩ := sec_le hg h0 (by rw [hT]; exact h1) hsec
    exact ⟨a, e1, e2⟩
  clear cRk hsec hkm hg hn hT hk9 hTr
  obtain ⟨g0, hg0⟩ : ∃ g0, w.heap.size = g0 := ⟨_, rfl⟩
  obtain ⟨W0, hW0⟩ : ∃ W0, W0 = w.alloc (.cells #[.int .i64 K0, .int .i64 M0, .int .i64 B0] 23) := ⟨_, rfl⟩
  have hb0 : Below w.heap.size w W0 := by rw [hW0]; exact (Below.refl _ _).alloc (Nat.le_refl _) _
  have hr0 : W0.heap[g0]? = some (.cells #[.int .i64 K0, .int .i64 M0, .int .i64 B0] 23 (0, 0)) := by rw [hW0, ← hg0]; exact heap_alloc_new _ _
  have hr0l := (Array.getElem?_eq_some_iff.1 hr0).1
  have ht0 := ht.below hb0 ht.two
  have HT2 := Lib.hid ht.two
  have HB0 := Lib.hid hb0
  have HG0 := Lib.hid hg0
  obtain ⟨va, vc, hvf, _⟩ := hA.1.items
  subst hvf
  have HA := Lib.hid hA
  clear ht hb0 hA
  go_enter Tryz.func3, Tryz.ntmps3
  go_wp2_with (fail)
  rw [show w.alloc (.cells #[.int .i64 K0, .int .i64 M0, .int .i64 B0] 23) = W0 from hW0.symm]
  clear hW0
  refine (cA W0 ht0).mono ?_
  rintro e w1 ⟨rfl, b1⟩
  have r0 : w1.cell? ⟨g0, 0, none⟩ = some (.int .i64 K0) := heap_cell ((b1.block g0 hr0l).trans hr0) rfl
  have r1 : w1.cell? ⟨g0, 1, none⟩ = some (.int .i64 M0) := heap_cell ((b1.block g0 hr0l).trans hr0) rfl
  have r2 : w1.cell? ⟨g0, 2, none⟩ = some (.int .i64 B0) := heap_cell ((b1.block g0 hr0l).trans hr0) rfl
  have ht1 := ht0.below b1 ht0.two
  have HB1 := Lib.hid (HB0.out.trans (b1.mono HB0.out.size))
  clear cA b1 ht0 hr0 hr0l
  go_wp2_with (fail)
  refine (stf_nil w1).mono ?_
  rintro e w1' ⟨rfl, rfl⟩
  go_wp2_with (fail)
  refine (cF w1).mono ?_
  rintro e w2 ⟨rfl, b2⟩
  have ht2 := ht1.below b2 ht1.two
  obtain ⟨W3, hW3⟩ : ∃ W3, W3 = w2.alloc (.cells #[.int .i64 (k : Int), .int .i64 (m : Int), .int .i64 B] 23) := ⟨_, rfl⟩
  obtain ⟨g, hg⟩ : ∃ g, w2.heap.size = g := ⟨_, rfl⟩
  have hb3 : Below w2.heap.size w2 W3 := by rw [hW3]; exact (Below.refl _ _).alloc (Nat.le_refl _) _
  have hg3 : W3.heap[g]? = some (.cells #[.int .i64 (k : Int), .int .i64 (m : Int), .int .i64 B] 23 (0, 0)) := by rw [hW3, ← hg]; exact heap_alloc_new _ _
  have hgl := (Array.getElem?_eq_some_iff.1 hg3).1
  have ht3 := ht2.below hb3 ht2.two
  have HB3 := Lib.hid (HB1.out.trans ((b2.trans (hb3.mono b2.size)).mono HB1.out.size))
  have e0 : W3.cell? ⟨g, 0, none⟩ = some (.int .i64 (k : Int)) := heap_cell hg3 rfl
  have e1 : W3.cell? ⟨g, 1, none⟩ = some (.int .i64 (m : Int)) := heap_cell hg3 rfl
  have e2 : W3.cell? ⟨g, 2, none⟩ = some (.int .i64 B) := heap_cell hg3 rfl
  clear cF b2 ht1 ht2 r0 r1 r2 hb3 HB1 HB0
  go_wp2_with (fail)
  rw [show w2.alloc (.cells #[.int .i64 (k : Int), .int .i64 (m : Int), .int .i64 B] 23) = W3 from hW3.symm]
  clear hW3
  refine (CRk.out W3).mono ?_
  rintro e w4 ⟨S4, ka, wq, T4, kb, rfl, a4, q4, hle, hlt4⟩
  have h4 : SW W3 S4 w4 ka n g (k : Int) (m : Int) B (R00 sec) := ⟨a4, (a4.b.block g hgl).trans hg3, fun z => by have := a4.f g z; omega, ht3.below a4.b ht3.two, ht3.two⟩
  have q4' : KA W3 T4 w4 kb n (R00 sec) := ⟨RA.b a4, fun z hz => Nat.le_trans hle (q4.f z hz), q4.h⟩
  have H4 : Hid (∃ Sa Sb R, SW W3 Sa w4 ka n g (k : Int) (m : Int) B R ∧ KA W3 Sb w4 kb n R ∧ (∀ z, Sa z → ¬ Sb z) ∧ ¬ Sb g ∧ ROk n R 0) := Lib.hid ⟨S4, T4, R00 sec, h4, q4', fun z y y2 => by have := hlt4 z y; have := q4.f z y2; omega, fun z => by have := q4'.f g z; omega, rok_00 n sec⟩
  obtain ⟨c0, c1, c2⟩ := h4.cells
  have hw34 := Lib.hid (RA.b a4)
  have HN := HN7.out
  have hkb : (k : Int) ≤ 4 := by omega
  have hmb : (m : Int) ≤ 3 := by omega
  have hk1 : 1 ≤ (k : Int) := by omega
  clear a4 q4 hle hlt4 h4 q4' hg3 hgl ht3 e0 e1 e2 hg CRk HN
  as_aux_lemma =>
  go_upto_block 0 with (fail)
  clear c0 c1 c2
  go_cut [14] from 64 to 304 (fun _ wx => Below W3.heap.size W3 wx)
  case first =>
    go_wp2_with (fail)
    go_loopw [14] (fun t wr => ∃ i : Nat, i ≤ la.length ∧ i ≤ 40 ∧ t = .int .i64 (i : Int) ∧ ∃ Sa Sb R, SW W3 Sa wr ka n g (k : Int) (m : Int) B R ∧ KA W3 Sb wr kb n R ∧ (∀ z, Sa z → ¬ Sb z) ∧ ¬ Sb g ∧ ROk n R (20 * i)) (fun t _ => la.length - (RowKit.intOf t).toNat)
    case atStart => exact ⟨0, Nat.zero_le _, by omega, rfl, H4.out⟩
    case round =>
      clear H4 hw34
      obtain ⟨i, hi, hi40, rfl, Sa, Sb, R, hsw, hq, hd, hgn, hro⟩ := hrel
      rename World => wr
      by_cases hlt : i < la.length ∧ i < 40
      · obtain ⟨hlt, h40⟩ := hlt
        have y1 : (i : Int) < (la.length : Int) := by omega
        have y2 : (i : Int) < 40 := by omega
        obtain ⟨pa', pc', hv', hit⟩ := HA.out.1.items
        obtain ⟨rfl, rfl⟩ : va = pa' ∧ vc = pc' := by injection hv' with z1 z2 z3; exact ⟨z1, z3⟩
        clear hv'
        obtain ⟨cb, co, rfl, clt, hcc⟩ := hit i hlt
        obtain ⟨⟨i0, i1, i2, i3⟩, ⟨hRs, hIs, hLs, hcapS⟩, ⟨hRl, hIl, hLl⟩, hC, hCn⟩ := HA.out.2.1 _ (List.getElem_mem hlt)
        obtain ⟨x, hx⟩ : ∃ x, la[i] = x := ⟨_, rfl⟩
        rw [hx] at hcc i0 i1 i2 i3 hRs hIs hLs hcapS hRl hIl hLl hC hCn
        have hba := HB3.out.trans (hsw.ra.b.mono HB3.out.size)
        have cell : ∀ j, j < 7 → wr.cell? ⟨cb, co + i * 7 + j, none⟩ = (aE13.f x)[j]? := fun j hj => by
          rw [Nat.add_assoc]
          exact (hba.cell (p := ⟨cb, co + (i * 7 + j), none⟩) clt).trans (hcc j hj)
        obtain ⟨sa, sn, sc, hsv⟩ : ∃ a n c, x.vs = .slice a n c := by
          obtain ⟨a, c, e⟩ := hRs.form; exact ⟨a, _, c, e⟩
        obtain ⟨ta, tn, tc, htv⟩ : ∃ a n c, x.vl = .slice a n c := by
          obtain ⟨a, c, e⟩ := hRl.form; exact ⟨a, _, c, e⟩
        obtain ⟨ca, cn, cc, hcv⟩ : ∃ a n c, x.vc = .slice a n c := by
          rw [← asS_of hC.1]; cases x.vc <;> exact ⟨_, _, _, rfl⟩
        have q0 : wr.cell? ⟨cb, co + i * 7, none⟩ = some (.int .i64 x.wh) := cell 0 (by omega)
        have q1 : wr.cell? ⟨cb, co + i * 7 + 1, none⟩ = some (.int .i64 x.sl) := cell 1 (by omega)
        have q2 : wr.cell? ⟨cb, co + i * 7 + 2, none⟩ = some (.int .i64 x.n) := cell 2 (by omega)
        have q3 : wr.cell? ⟨cb, co + i * 7 + 3, none⟩ = some (.int .i64 x.at_) := cell 3 (by omega)
        have q4 : wr.cell? ⟨cb, co + i * 7 + 4, none⟩ = some (.slice sa sn sc) := by rw [← hsv, ← asS_of hRs]; exact cell 4 (by omega)
        have q5 : wr.cell? ⟨cb, co + i * 7 + 5, none⟩ = some (.slice ta tn tc) := by rw [← htv, ← asS_of hRl]; exact cell 5 (by omega)
        have q6 : wr.cell? ⟨cb, co + i * 7 + 6, none⟩ = some (.slice ca cn cc) := by rw [← hcv, ← asS_of hC.1]; exact cell 6 (by omega)
        rw [hsv] at hRs
        rw [htv] at hRl
        rw [hcv] at hC
        obtain ⟨wb, hwb⟩ : ∃ wb, wb = wr.alloc (.cells #[.int .i64 x.wh, .int .i64 x.sl, .int .i64 x.n, .int .i64 x.at_, .slice sa sn sc, .slice ta tn tc, .slice ca cn cc] 37) := ⟨_, rfl⟩
        obtain ⟨xb, hxb⟩ : ∃ xb, wr.heap.size = xb := ⟨_, rfl⟩
        have bwb : Below wr.heap.size wr wb := by rw [hwb]; exact (Below.refl _ _).alloc (Nat.le_refl _) _
        obtain ⟨X, hX⟩ : ∃ X, (Obj.cells #[.int .i64 x.wh, .int .i64 x.sl, .int .i64 x.n, .int .i64 x.at_, .slice sa sn sc, .slice ta tn tc, .slice ca cn cc] 37 (0, 0)) = X := ⟨_, rfl⟩
        have hP : P13 W3 wb Sa Sb ka kb n g (k : Int) (m : Int) B R R xb X := ⟨hsw.after bwb, hq.after bwb, hd, hgn, by rw [← hX, hwb, ← hxb]; exact heap_alloc_new _ _, fun z => by have := RA.lt hsw.ra _ z; omega, fun z => by have := hq.lt _ z; omega⟩
        have HPB := Lib.hid hP
        have hsnl : sn = x.ls.length := by obtain ⟨a, c, e⟩ := hRs.form; rw [List.length_map] at e; injection e
        have hS : ∀ j, Hid (∀ V Sa Sb Ra Rq, P13 W3 V Sa Sb ka kb n g (k : Int) (m : Int) B Ra Rq xb X → V.cell? ⟨xb, j, none⟩ = (#[.int .i64 x.wh, .int .i64 x.sl, .int .i64 x.n, .int .i64 x.at_, .slice sa sn sc, .slice ta tn tc, .slice ca cn cc] : Array Value)[j]?) := fun j => Lib.hid fun V _ _ _ _ h => h.cell hX.symm j
        have hS1 : Hid (∀ V Sa Sb Ra Rq, P13 W3 V Sa Sb ka kb n g (k : Int) (m : Int) B Ra Rq xb X → V.cell? ⟨xb, 1, none⟩ = some (.int .i64 x.sl)) := Lib.hid fun V _ _ _ _ h => (hS 1).out V _ _ _ _ h
        have hS2 : Hid (∀ V Sa Sb Ra Rq, P13 W3 V Sa Sb ka kb n g (k : Int) (m : Int) B Ra Rq xb X → V.cell? ⟨xb, 2, none⟩ = some (.int .i64 x.n)) := Lib.hid fun V _ _ _ _ h => (hS 2).out V _ _ _ _ h
        have hS3 : Hid (∀ V Sa Sb Ra Rq, P13 W3 V Sa Sb ka kb n g (k : Int) (m : Int) B Ra Rq xb X → V.cell? ⟨xb, 3, none⟩ = some (.int .i64 x.at_)) := Lib.hid fun V _ _ _ _ h => (hS 3).out V _ _ _ _ h
        have hS5 : Hid (∀ V Sa Sb Ra Rq, P13 W3 V Sa Sb ka kb n g (k : Int) (m : Int) B Ra Rq xb X → V.cell? ⟨xb, 5, none⟩ = some (.slice ta tn tc)) := Lib.hid fun V _ _ _ _ h => (hS 5).out V _ _ _ _ h
        have hS6 : Hid (∀ V Sa Sb Ra Rq, P13 W3 V Sa Sb ka kb n g (k : Int) (m : Int) B Ra Rq xb X → V.cell? ⟨xb, 6, none⟩ = some (.slice ca cn cc)) := Lib.hid fun V _ _ _ _ h => (hS 6).out V _ _ _ _ h
        obtain ⟨q, hq0⟩ : ∃ q, min sn 20 = q := ⟨_, rfl⟩
        have hql : q ≤ sn ∧ q ≤ 20 := by omega
        have hmin : min ((sn : Nat) : Int) 20 = (q : Int) := by omega
        have hsc : sn ≤ sc := by have e := hcapS; rw [hsv] at e; exact e
        have hsl := slice_hi Tryz.underlying26 (fun W => by kernel_rfl) sa sn sc q (by omega)
        have HSN : Hid ((x.ls.take q).length ≤ 20 ∧ q ≤ sc) := Lib.hid ⟨by rw [List.length_take]; omega, by omega⟩
        obtain ⟨vcpT, hvcpT⟩ := Int.eq_ofNat_of_zero_le (pk_rng x.wh 13 (by omega)).1
        have hrcpT : vcpT < 13 := by have := (pk_rng x.wh 13 (by omega)).2; omega
        have cpT : Hid (∀ W, Calls Tryz.prog 8 #[.int .i64 x.wh, .int .i64 13] W fun e w' => e = .returned (.int .i64 (vcpT : Int)) ∧ W = w') := Lib.hid fun W => by rw [← hvcpT]; exact pick13_any x.wh 13 W (in64_iff.1 (by assumption)).1 (in64_iff.1 (by assumption)).2 (by omega) (by omega)
        clear hvcpT
        have HSB := Lib.hid (fun (Sz : Nat → Prop) (hz : ∀ z, Sz z → W3.heap.size ≤ z) (hne : x.ls.take q ≠ []) (z : Nat) (hzz : (Value.slice sa q sc).ownBlock = some z) => (show ¬ Sz z from fun hs => by
          have h1 := (hRs.pre13 (q := q) (by rw [List.length_map]; omega)).blk (by intro e; apply hne; rw [← List.map_take, List.map_eq_nil_iff] at e; exact e) z hzz
          have h2 := hz z hs
          have h3 := HB3.out.size
          omega))
        have HIN := Lib.hid (And.intro hIl (And.intro hLl hCn))
        have HCA : Hid (∀ Sz : Nat → Prop, (∀ z, Sz z → W3.heap.size ≤ z) → ChA (.slice ca cn cc) x.lc Sz) := Lib.hid fun Sz hz => hC.old fun z hs => Nat.le_trans HB3.out.size (hz z hs)
        have HBW : Hid (∀ V Sa Sb Ra Rq, P13 W3 V Sa Sb ka kb n g (k : Int) (m : Int) B Ra Rq xb X → Below W3.heap.size W3 V) := Lib.hid fun V _ _ _ _ h => h.b
        have HWR := Lib.hid bwb
        have HRO := Lib.hid hro
        have HHX := Lib.hid hX
        have HSW : Hid (∀ V Sa Sb Ra Rq, P13 W3 V Sa Sb ka kb n g (k : Int) (m : Int) B Ra Rq xb X → Reads V (.slice sa q sc) ((x.ls.take q).map (.int .i64))) := Lib.hid fun V _ _ _ _ h => by
          rw [List.map_take]
          exact (hRs.pre13 (by rw [List.length_map]; omega)).below (HB3.out.trans (h.b.mono HB3.out.size))
        have HCW : Hid (∀ V Sa Sb Ra Rq, P13 W3 V Sa Sb ka kb n g (k : Int) (m : Int) B Ra Rq xb X → ChR V (.slice ca cn cc) x.lc) := Lib.hid fun V _ _ _ _ h => hC.below (HB3.out.trans (h.b.mono HB3.out.size))
        have HLW : Hid (∀ V Sa Sb Ra Rq, P13 W3 V Sa Sb ka kb n g (k : Int) (m : Int) B Ra Rq xb X → Reads V (.slice ta tn tc) (x.ll.map (.int .i64))) := Lib.hid fun V _ _ _ _ h => hRl.below (HB3.out.trans (h.b.mono HB3.out.size))
        have hsl' := hsl
        clear hsw hq hd hgn hit hcc cell hx hba hIs hLs hCn hS hq0 hql hC hRs hRl hIl hLl bwb hP hsv htv hcv hsnl hsc hro hcapS hX
        as_aux_lemma =>
        go_upto_region 12 with (fail)
        rw [show wr.alloc (.cells #[.int .i64 x.wh, .int .i64 x.sl, .int .i64 x.n, .int .i64 x.at_, .slice sa sn sc, .slice ta tn tc, .slice ca cn cc] 37) = wb from hwb.symm]
        have e4 : wb.cell? ⟨xb, 4, none⟩ = some (.slice sa sn sc) := (HPB.out.cell HHX.out.symm 4)
        have e0 : wb.cell? ⟨xb, 0, none⟩ = some (.int .i64 x.wh) := (HPB.out.cell HHX.out.symm 0)
        have HXB := Lib.hid hxb
        clear hwb q0 q1 q2 q3 q4 q5 q6 hxb
        go_wp2_with (fail)
        refine (cpT.out wb).mono ?_
        rintro e w' ⟨rfl, rfl⟩
        clear e0 e4 cpT hsl hsl' i0
        as_aux_lemma =>
        go_upto_block 2 with (fail)
        go_cut [17, 18, 19, 20, 21, 22, 23, 24, 25, 26, 87] from 88 to 260 (fun _ _ _ _ _ _ _ _ _ _ _ wx => ∃ Sa Sb R', P13 W3 wx Sa Sb ka kb n g (k : Int) (m : Int) B R' R' xb X ∧ ROk n R' (20 * (i + 1)))
        case first =>
          rcases (by omega : vcpT = 0 ∨ vcpT = 1 ∨ vcpT = 2 ∨ vcpT = 3 ∨ vcpT = 4 ∨ vcpT = 5 ∨ vcpT = 6 ∨ vcpT = 7 ∨ vcpT = 8 ∨ vcpT = 9 ∨ vcpT = 10 ∨ vcpT = 11 ∨ vcpT = 12) with rfl | rfl | rfl | rfl | rfl | rfl | rfl | rfl | rfl | rfl | rfl | rfl | rfl
          · as_aux_lemma =>
            obtain ⟨vcpU, hvcpU⟩ := Int.eq_ofNat_of_zero_le (pk_rng x.at_ 9 (by omega)).1
            have hrcpU : vcpU < 9 := by have := (pk_rng x.at_ 9 (by omega)).2; omega
            have cpU : Hid (∀ W, Calls Tryz.prog 8 #[.int .i64 x.at_, .int .i64 9] W fun e w' => e = .returned (.int .i64 (vcpU : Int)) ∧ W = w') := Lib.hid fun W => by rw [← hvcpU]; exact pick13_any x.at_ 9 W (in64_iff.1 (by assumption)).1 (in64_iff.1 (by assumption)).2 (by omega) (by omega)
            clear hvcpU
            obtain ⟨vcpC, hvcpC⟩ := Int.eq_ofNat_of_zero_le (pk_rng x.sl 121 (by omega)).1
            have hrcpC : vcpC < 121 := by have := (pk_rng x.sl 121 (by omega)).2; omega
            have cpC : Hid (∀ W, Calls Tryz.prog 8 #[.int .i64 x.sl, .int .i64 121] W fun e w' => e = .returned (.int .i64 (vcpC : Int)) ∧ W = w') := Lib.hid fun W => by rw [← hvcpC]; exact pick13_any x.sl 121 W (in64_iff.1 (by assumption)).1 (in64_iff.1 (by assumption)).2 (by omega) (by omega)
            clear hvcpC
            have HRO1 : ROk n R 1000000000000 := HRO.out.le (by omega)
            have hP := HPB.out
            have HN := HN7.out
            have CD : Hid (∀ V Sa Sb Ra Rq, P13 W3 V Sa Sb ka kb n g (k : Int) (m : Int) B Ra Rq xb X → Calls Tryz.prog 9 #[.agg #[.int .i64 (k : Int), .int .i64 (m : Int), .int .i64 B], .slice ta tn tc] V (GivesT V (dataL13 k x.ll))) := Lib.hid fun V _ _ _ _ h => data13_any k m B _ x.ll V (by omega) (HLW.out _ _ _ _ _ h) (fun c hc => in64_iff.1 (HIN.out.1 c hc)) (by have := HIN.out.2.1; omega)
            have hdl := dataL13_len k x.ll
            have hds := (data_rect (dataL13_right k x.ll)).s
            obtain ⟨D, hD⟩ : ∃ D, dataL13 k x.ll = D := ⟨_, rfl⟩
            rw [hD] at CD hdl hds
            have HDL := Lib.hid hdl
            have hk14 : 1 ≤ k ∧ k ≤ 4 := by omega
            have HDZ : Hid (D.length ≤ 4 ∧ (∀ t ∈ D, t.size ≤ 120) ∧ (D.getD 0 ⟨#[]⟩).size = 120) := Lib.hid ⟨by omega, fun t ht => by
              obtain ⟨i, hi, e⟩ := List.getElem_of_mem ht
              have h1 := hds i (by omega)
              rw [List.getD_eq_getElem?_getD, List.getElem?_eq_getElem hi] at h1
              rw [← e]; exact Nat.le_of_eq h1, hds 0 (by omega)⟩
            have HK14 := Lib.hid hk14
            have HS7 : Hid (∀ V Sa Sb Ra Rq, P13 W3 V Sa Sb ka kb n g (k : Int) (m : Int) B Ra Rq xb X → (V.heap[g]? = some (.cells #[.int .i64 (k : Int), .int .i64 (m : Int), .int .i64 B] 23 (0, 0)) ∧ V.cell? ⟨xb, 2, none⟩ = some (.int .i64 x.n) ∧ V.cell? ⟨xb, 5, none⟩ = some (.slice ta tn tc))) := Lib.hid fun V _ _ _ _ h => ⟨h.sw.gb, hS2.out _ _ _ _ _ h, hS5.out _ _ _ _ _ h⟩
            have HS8 : Hid (∀ V Sa Sb Ra Rq (o : Obj), P13 W3 V Sa Sb ka kb n g (k : Int) (m : Int) B Ra Rq xb X → ((fun V => V.heap[g]? = some (.cells #[.int .i64 (k : Int), .int .i64 (m : Int), .int .i64 B] 23 (0, 0)) ∧ V.cell? ⟨xb, 2, none⟩ = some (.int .i64 x.n) ∧ V.cell? ⟨xb, 5, none⟩ = some (.slice ta tn tc)) (V.alloc o))) := Lib.hid fun V _ _ _ _ o h => HS7.out _ _ _ _ _ (h.after ((Below.refl _ _).alloc (Nat.le_refl _) o))
            have hPd := hP.after (Below.drewZ wb)
            have FIN : Hid (∀ w7 n7 x7 y7 B7, P13 W3 w7 Sa Sb ka kb n g (k : Int) (m : Int) B R R xb X → Own w7 B7 9 (.slice x7 n7 y7) (tx D) → wb.heap.size ≤ B7 → ∃ b17 bd c, (Value.pointer (some ⟨w7.heap.size, 0, none⟩)) = .pointer (some ⟨b17, 0, none⟩) ∧ (wb.heap.size ≤ b17 ∧ wb.heap.size ≤ bd) ∧ P13 W3 (w7.alloc (.cells #[.int .i64 x.n, .slice x7 n7 y7] 42)) Sa Sb ka kb n g (k : Int) (m : Int) B R R xb X ∧ SBx (w7.alloc (.cells #[.int .i64 x.n, .slice x7 n7 y7] 42)) Sa Sb b17 bd k c x.n D) := Lib.hid fun w7 n7 x7 y7 B7 p7 o7 hB7 => by
              have ba : Below w7.heap.size w7 (w7.alloc (.cells #[.int .i64 x.n, .slice x7 n7 y7] 42)) := (Below.refl _ _).alloc (Nat.le_refl _) _
              have hs8 : (w7.alloc (.cells #[.int .i64 x.n, .slice x7 n7 y7] 42)).heap[w7.heap.size]? = some (.cells #[.int .i64 x.n, .slice x7 n7 y7] 42 (0, 0)) := heap_alloc_new _ _
              have hHN := HN7.out
              rcases o7.o.2 with ⟨_, h0⟩ | ⟨gd, cap, cur, hv7, _⟩
              · have := HDL.out
                have := HK14.out
                have e0 : D.length = 0 := by simpa [tx] using h0
                omega
              · have e1 : x7 = some ⟨gd, 0, none⟩ ∧ n7 = k ∧ y7 = cap := by
                  injection hv7 with z1 z2 z3
                  exact ⟨z1, by rw [z2]; simp [tx]; exact HDL.out, z3⟩
                obtain ⟨rfl, rfl, rfl⟩ := e1
                have hgd := o7.o.lt gd rfl
                refine ⟨w7.heap.size, gd, y7, rfl, ⟨by omega, by omega⟩, p7.after ba, hs8, (o7.after ba).down (Nat.zero_le _), ⟨fun z => ?_, fun z => ?_, fun z => ?_, fun z => ?_⟩, by omega⟩
                · have := p7.lt.1 _ z; omega
                · have := p7.lt.2 _ z; omega
                · have := HPB.out.lt.1 _ z; omega
                · have := HPB.out.lt.2 _ z; omega
            have FINB : Hid (∀ w7 n7 x7 y7, P13 W3 w7 Sa Sb ka kb n g (k : Int) (m : Int) B R R xb X → Own w7 (wb.drew.alloc (.cells #[.int .i64 0, .slice none 0 0] 42)).heap.size 9 (.slice x7 n7 y7) (tx D) → Below (wb.drew.alloc (.cells #[.int .i64 0, .slice none 0 0] 42)).heap.size (wb.drew.alloc (.cells #[.int .i64 0, .slice none 0 0] 42)) w7 → w7.heap[wb.drew.heap.size]? = some (.cells #[.int .i64 0, .slice none 0 0] 42 (0, 0)) ∧ P13 W3 (w7.setRow wb.drew.heap.size #[.int .i64 x.n, .slice x7 n7 y7]) Sa Sb ka kb n g (k : Int) (m : Int) B R R xb X ∧ ∃ b17 bd c, (Value.pointer (some ⟨wb.drew.heap.size, 0, none⟩)) = .pointer (some ⟨b17, 0, none⟩) ∧ (wb.heap.size ≤ b17 ∧ wb.heap.size ≤ bd) ∧ P13 W3 (w7.setRow wb.drew.heap.size #[.int .i64 x.n, .slice x7 n7 y7]) Sa Sb ka kb n g (k : Int) (m : Int) B R R xb X ∧ SBx (w7.setRow wb.drew.heap.size #[.int .i64 x.n, .slice x7 n7 y7]) Sa Sb b17 bd k c x.n D) := Lib.hid fun w7 n7 x7 y7 p7 o7 b7 => by
              have hdz : wb.drew.heap.size = wb.heap.size := rfl
              have hsz : (wb.drew.alloc (.cells #[.int .i64 0, .slice none 0 0] 42)).heap.size = wb.heap.size + 1 := by simp
              have hb7 : w7.heap[wb.drew.heap.size]? = some (.cells #[.int .i64 0, .slice none 0 0] 42 (0, 0)) := (b7.block _ (by omega)).trans (heap_alloc_new _ _)
              have hlt := HPB.out.lt
              have hgl := HPB.out.sw.gl
              have hxl := HPB.out.xl
              have hbs := HPB.out.b.size
              have hPx : P13 W3 (w7.setRow wb.drew.heap.size #[.int .i64 x.n, .slice x7 n7 y7]) Sa Sb ka kb n g (k : Int) (m : Int) B R R xb X := p7.stpT (Stp.row13 w7 _ _) (fun z e => by have e2 : z = wb.drew.heap.size := e; omega) (fun z hz e => by have e2 : z = wb.drew.heap.size := e; have := hlt.1 z hz; omega) (fun z hz e => by have e2 : z = wb.drew.heap.size := e; have := hlt.2 z hz; omega) (fun e => by have e2 : g = wb.drew.heap.size := e; omega) (fun e => by have e2 : xb = wb.drew.heap.size := e; omega)
              refine ⟨hb7, hPx, ?_⟩
              rcases o7.o.2 with ⟨_, h0⟩ | ⟨gd, cap, cur, hv7, _⟩
              · have := HDL.out
                have := HK14.out
                have e0 : D.length = 0 := by simpa [tx] using h0
                omega
              · have e1 : x7 = some ⟨gd, 0, none⟩ ∧ n7 = k ∧ y7 = cap := by
                  injection hv7 with z1 z2 z3
                  exact ⟨z1, by rw [z2]; simp [tx]; exact HDL.out, z3⟩
                obtain ⟨rfl, rfl, rfl⟩ := e1
                have hgd := o7.o.lt gd rfl
                have hne : gd ≠ wb.drew.heap.size := by omega
                refine ⟨wb.drew.heap.size, gd, y7, rfl, ⟨by omega, by omega⟩, hPx, setRow_heap w7 _ _ _ _ _ hb7, (o7.sameBlock (row13_heap w7 _ hne)).down (Nat.zero_le _), ⟨fun z => ?_, fun z => ?_, fun z => ?_, fun z => ?_⟩, hne⟩
                · have := hlt.1 _ z; omega
                · have := hlt.2 _ z; omega
                · have := hlt.1 _ z; omega
                · have := hlt.2 _ z; omega
            clear hD HN hdl hds hk14
            go_upto_region 17 with (fail)
            go_cut [17] from 92 to 98 (fun s17 wx => ∃ b17 bd c, s17 = .pointer (some ⟨b17, 0, none⟩) ∧ (wb.heap.size ≤ b17 ∧ wb.heap.size ≤ bd) ∧ P13 W3 wx Sa Sb ka kb n g (k : Int) (m : Int) B R R xb X ∧ SBx wx Sa Sb b17 bd k c x.n D)
            case first =>
              refine wp_region_held_drew (S := fun V => V.heap[g]? = some (.cells #[.int .i64 (k : Int), .int .i64 (m : Int), .int .i64 B] 23 (0, 0)) ∧ V.cell? ⟨xb, 2, none⟩ = some (.int .i64 x.n) ∧ V.cell? ⟨xb, 5, none⟩ = some (.slice ta tn tc)) (by kernel_rfl) (HS7.out _ _ _ _ _ hPd) (fun hHeld => ?_)
              refine wpAnyH_takeD (i := 0) (v := .pointer (some ⟨xb, 2, none⟩)) (some 92) rfl (by kernel_rfl) (by kernel_rfl) (by kernel_rfl) rfl (fun _ _ _ h => h) (Or.inl ⟨by rfl, by rintro w ⟨hs1, hs2, hs3⟩; first | rfl | (go_simp; done) | (go_simp; rfl)⟩) (by assumption) ?_
              simp only [Act.put, List.setIfInBounds_toArray, List.set_cons_zero, List.set_cons_succ]
              refine wpAnyH_takeD (i := 1) (v := .int .i64 x.n) (some 93) rfl (by kernel_rfl) (by kernel_rfl) (by kernel_rfl) rfl (fun _ _ _ h => h) (yieldsIf_load_run (by rfl) _ rfl rfl (fun _ hs => cell_load (fun W => by kernel_rfl) hs.2.1)) (by assumption) ?_
              simp only [Act.put, List.setIfInBounds_toArray, List.set_cons_zero, List.set_cons_succ]
              refine wpAnyH_takeD (i := 2) (v := .agg #[.int .i64 (k : Int), .int .i64 (m : Int), .int .i64 B]) (some 94) rfl (by kernel_rfl) (by kernel_rfl) (by kernel_rfl) rfl (fun _ _ _ h => h) (yieldsIf_load_run (by rfl) _ rfl rfl (fun _ hs => geo_load hs.1)) (by assumption) ?_
              simp only [Act.put, List.setIfInBounds_toArray, List.set_cons_zero, List.set_cons_succ]
              refine wpAnyH_takeD (i := 3) (v := .pointer (some ⟨xb, 5, none⟩)) (some 95) rfl (by kernel_rfl) (by kernel_rfl) (by kernel_rfl) rfl (fun _ _ _ h => h) (Or.inl ⟨by rfl, by rintro w ⟨hs1, hs2, hs3⟩; first | rfl | (go_simp; done) | (go_simp; rfl)⟩) (by assumption) ?_
              simp only [Act.put, List.setIfInBounds_toArray, List.set_cons_zero, List.set_cons_succ]
              refine wpAnyH_takeD (i := 4) (v := .slice ta tn tc) (some 96) rfl (by kernel_rfl) (by kernel_rfl) (by kernel_rfl) rfl (fun _ _ _ h => h) (yieldsIf_load_run (by rfl) _ rfl rfl (fun _ hs => cell_load (fun W => by kernel_rfl) hs.2.2)) (by assumption) ?_
              simp only [Act.put, List.setIfInBounds_toArray, List.set_cons_zero, List.set_cons_succ]
              refine wpAnyH_ready (rs := [5, 7]) (by kernel_rfl) (by simp) ?_
              refine AllReadyH.cons rfl (fun K hK => ?_) (AllReadyH.cons rfl (fun K hK => ?_) AllReadyH.nil)
              · go_simp
                refine (CD.out _ _ _ _ _ hPd).mono ?_
                rintro e w7 ⟨v7, rfl, o7, b7⟩
                obtain ⟨x7, y7, hf7⟩ := o7.reads.form
                rw [List.length_map] at hf7
                subst hf7
                have p7 := hPd.after b7
                refine hK.out _ _ (HS7.out _ _ _ _ _ p7) (fun hHeld => ?_)
                clear hK
                try simp only [Act.put, List.setIfInBounds_toArray, List.set_cons_zero, List.set_cons_succ]
                refine wpAnyH_takeD (i := 6) (v := .agg #[.int .i64 x.n, .slice x7 D.length y7]) (some 98) rfl (by kernel_rfl) (by kernel_rfl) (by kernel_rfl) rfl (fun _ _ _ h => h) (Or.inl ⟨by rfl, by rintro w ⟨hs1, hs2, hs3⟩; first | rfl | (go_simp; done) | (go_simp; rfl)⟩) (by assumption) ?_
                simp only [Act.put, List.setIfInBounds_toArray, List.set_cons_zero, List.set_cons_succ]
                refine wpAnyH_ready (rs := [7]) (by kernel_rfl) (by simp) ?_
                refine AllReadyH.cons rfl (fun K hK => ?_) AllReadyH.nil
                refine step_alloc_run (d := some 17) (stripe_alloc w7) rfl rfl rfl ?_
                refine hK.out _ _ (HS8.out _ _ _ _ _ _ p7) (fun hHeld => ?_)
                clear hK
                try simp only [Act.put, List.setIfInBounds_toArray, List.set_cons_zero, List.set_cons_succ]
                refine wpAnyH_ready (rs := [8]) (by kernel_rfl) (by simp) ?_
                refine AllReadyH.cons rfl (fun K hK => ?_) AllReadyH.nil
                refine step_store_run (d := none) (stripe_store w7 x.n x7 D.length y7) _ _ rfl rfl rfl rfl rfl ?_
                refine hK.out _ _ (HS8.out _ _ _ _ _ _ p7) (fun hHeld => ?_)
                clear hK
                try simp only [Act.put, List.setIfInBounds_toArray, List.set_cons_zero, List.set_cons_succ]
                refine wpAnyH_done (by kernel_rfl) ?_ _
                have hfin := FIN.out w7 D.length x7 y7 _ p7 o7 (Nat.le_refl _)
                clear hHeld p7 o7 b7 hPd
                go_wp2_with (fail)
                go_meet
                exact hfin
              · refine step_alloc_run (d := some 17) (stripe_alloc wb.drew) rfl rfl rfl ?_
                refine hK.out _ _ (HS8.out _ _ _ _ _ _ hPd) (fun hHeld => ?_)
                clear hK
                try simp only [Act.put, List.setIfInBounds_toArray, List.set_cons_zero, List.set_cons_succ]
                have ba := (Below.refl wb.drew.heap.size wb.drew).alloc (Nat.le_refl _) (.cells #[.int .i64 0, .slice none 0 0] 42)
                have pa := hPd.after ba
                refine wpAnyH_ready (rs := [5]) (by kernel_rfl) (by simp) ?_
                refine AllReadyH.cons rfl (fun K hK => ?_) AllReadyH.nil
                go_simp
                refine (CD.out _ _ _ _ _ pa).mono ?_
                rintro e w7 ⟨v7, rfl, o7, b7⟩
                obtain ⟨x7, y7, hf7⟩ := o7.reads.form
                rw [List.length_map] at hf7
                subst hf7
                have p7 := pa.after b7
                refine hK.out _ _ (HS7.out _ _ _ _ _ p7) (fun hHeld => ?_)
                clear hK
                try simp only [Act.put, List.setIfInBounds_toArray, List.set_cons_zero, List.set_cons_succ]
                refine wpAnyH_takeD (i := 6) (v := .agg #[.int .i64 x.n, .slice x7 D.length y7]) (some 98) rfl (by kernel_rfl) (by kernel_rfl) (by kernel_rfl) rfl (fun _ _ _ h => h) (Or.inl ⟨by rfl, by rintro w ⟨hs1, hs2, hs3⟩; first | rfl | (go_simp; done) | (go_simp; rfl)⟩) (by assumption) ?_
                simp only [Act.put, List.setIfInBounds_toArray, List.set_cons_zero, List.set_cons_succ]
                obtain ⟨hb7, hx7⟩ := FINB.out w7 D.length x7 y7 p7 o7 b7
                refine wpAnyH_ready (rs := [8]) (by kernel_rfl) (by simp) ?_
                refine AllReadyH.cons rfl (fun K hK => ?_) AllReadyH.nil
                refine step_store_run (d := none) (stripe_storeR w7 wb.drew.heap.size hb7 x.n x7 D.length y7) _ _ rfl rfl rfl rfl rfl ?_
                refine hK.out _ _ (HS7.out _ _ _ _ _ hx7.1) (fun hHeld => ?_)
                clear hK
                try simp only [Act.put, List.setIfInBounds_toArray, List.set_cons_zero, List.set_cons_succ]
                refine wpAnyH_done (by kernel_rfl) ?_ _
                have hfin := hx7.2
                clear hb7 hx7 pa ba
                clear hHeld p7 o7 b7 hPd
                go_wp2_with (fail)
                go_meet
                exact hfin
            case rest =>
            obtain ⟨b17, bd, c17, rfl, hbb, hP8, hSB⟩ := hcut
            rename World => w8
            clear FIN FINB hPd CD hP
            have HDL2 := HDL.out
            have hk14 := HK14.out
            have hgl := HPB.out.sw.gl
            have hxl := HPB.out.xl
            have hbs := HPB.out.b.size
            obtain ⟨a1, n1, c1, hlo, hy1⟩ := hSB.tail hk14.1 HDL2 ⟨HDZ.out.1, HDZ.out.2.1⟩
            have hy0 := hSB.y ⟨HDZ.out.1, HDZ.out.2.1⟩
            obtain ⟨cs0, cs1, fs0, fs1⟩ := hy0.cells
            have HA4 : Hid (P13 W3 (w8.setCell ⟨b17, 1, none⟩ (.slice a1 n1 c1)) Sa Sb ka kb n g (k : Int) (m : Int) B R R xb X ∧ SBy (w8.setCell ⟨b17, 1, none⟩ (.slice a1 n1 c1)) Sa Sb b17 x.n (.slice a1 n1 c1) D.tail) := Lib.hid ⟨hP8.put (by omega) (by omega) (by omega) hSB.na.1 hSB.na.2.1 1 _, hy1⟩
            have HA0 : Hid (P13 W3 w8 Sa Sb ka kb n g (k : Int) (m : Int) B R R xb X ∧ SBx w8 Sa Sb b17 bd k c17 x.n D) := Lib.hid ⟨hP8, hSB⟩
            have HNE : Hid (W3.heap.size ≤ bd ∧ g ≠ bd ∧ xb ≠ bd) := Lib.hid (by omega)
            have e3 := hS3.out _ _ _ _ _ hP8
            clear hy0 hy1 hSB hP8 hbb hgl hxl hbs hk14 HDL2
            go_wp2_with (fail)
            refine (cpU.out _).mono ?_
            rintro e wp1 ⟨rfl, rfl⟩
            clear e3
            go_upto_if 102 with (fail)
            go_cut [] from 99 to 121 (fun wx => (vcpU ≠ 4 → P13 W3 wx Sa Sb ka kb n g (k : Int) (m : Int) B R R xb X ∧ SBx wx Sa Sb b17 bd k c17 x.n D) ∧ (vcpU = 4 → ∃ a1 n1 c1, P13 W3 wx Sa Sb ka kb n g (k : Int) (m : Int) B R R xb X ∧ SBy wx Sa Sb b17 x.n (.slice a1 n1 c1) D.tail))
            case first =>
              by_cases h4 : vcpU = 4
              · have t4 : ((vcpU : Int) == 4) = true := by rw [h4]; rfl
                have H4c := Lib.hid h4
                clear HA0 h4
                go_wp2_with (fail)
                go_meet
                exact ⟨fun h => absurd H4c.out h, fun _ => ⟨_, _, _, HA4.out.1, HA4.out.2⟩⟩
              · have t4 : ((vcpU : Int) == 4) = false := by rw [beq_eq_false_iff_ne]; omega
                have H4c := Lib.hid h4
                clear HA4 hlo h4
                go_wp2_with (fail)
                go_meet
                exact ⟨fun _ => HA0.out, fun h => absurd h H4c.out⟩
            case rest =>
            rename World => w9
            have hPw : P13 W3 w9 Sa Sb ka kb n g (k : Int) (m : Int) B R R xb X := by
              by_cases h4 : vcpU = 4
              · obtain ⟨_, _, _, h, _⟩ := hcut.2 h4; exact h
              · exact (hcut.1 h4).1
            have e3 := hS3.out _ _ _ _ _ hPw
            have e1 := hS1.out _ _ _ _ _ hPw
            have HC := Lib.hid hcut
            clear HA0 HA4 hlo cs0 cs1 fs0 fs1 hPw hcut
            go_wp2_with (fail)
            refine (cpU.out _).mono ?_
            rintro e wp1 ⟨rfl, rfl⟩
            clear e3
            go_upto_if 110 with (fail)
            go_cut [] from 99 to 121 (fun wx => ∃ dv dn dc D', P13 W3 wx Sa Sb ka kb n g (k : Int) (m : Int) B R R xb X ∧ SBy wx Sa Sb b17 x.n (.slice dv dn dc) D')
            case first =>
              by_cases h5 : vcpU = 5
              · have t5 : ((vcpU : Int) == 5) = true := by rw [h5]; rfl
                obtain ⟨hP9, hSB⟩ := HC.out.1 (by omega)
                obtain ⟨cs0, cs1, fs0, fs1⟩ := (hSB.y ⟨HDZ.out.1, HDZ.out.2.1⟩).cells
                have hk14 := HK14.out
                obtain ⟨cb0, fb0⟩ := hSB.first hk14.1 HDL.out
                have HA5 : Hid (∀ s : ByteArray, s.size ≤ 120 → P13 W3 ((w9.drew).setCell ⟨bd, 0, none⟩ (.string s)) Sa Sb ka kb n g (k : Int) (m : Int) B R R xb X ∧ SBy ((w9.drew).setCell ⟨bd, 0, none⟩ (.string s)) Sa Sb b17 x.n (.slice (some ⟨bd, 0, none⟩) k c17) (D.set 0 s)) := Lib.hid fun s hs => by
                  have hPz := hP9.after (Below.drewZ w9)
                  have hSz : SBx w9.drew Sa Sb b17 bd k c17 x.n D := ⟨hSB.s, hSB.o.after (Below.drewZ w9), hSB.na, hSB.ne⟩
                  exact ⟨hPz.put HNE.out.1 HNE.out.2.1 HNE.out.2.2 hSB.na.2.2.1 hSB.na.2.2.2 0 _, hSz.cut ⟨HDZ.out.1, HDZ.out.2.1⟩ s hs⟩
                clear hP9 hSB HC h5 hk14
                go_upto_region 21 with (fail)
                have hD0 := HDZ.out.2.2
                have hk14 := HK14.out
                have HSJ : Hid (((D.getD 0 ⟨#[]⟩).extract 0 vcpC).size ≤ 120) := Lib.hid (by simp only [ByteArray.size_extract]; omega)
                have HSS : Hid (((w9.drew).setCell ⟨bd, 0, none⟩ (.string ((D.getD 0 ⟨#[]⟩).extract 0 vcpC))).cell? ⟨b17, 1, none⟩ = some (.slice (some ⟨bd, 0, none⟩) k c17) ∧ ((w9.drew).setCell ⟨bd, 0, none⟩ (.string ((D.getD 0 ⟨#[]⟩).extract 0 vcpC))).cell? ⟨xb, 1, none⟩ = some (.int .i64 x.sl)) := Lib.hid ⟨(HA5.out _ HSJ.out).2.cells.2.1, hS1.out _ _ _ _ _ (HA5.out _ HSJ.out).1⟩
                refine wp_region_held_drew (S := fun V => V.cell? ⟨b17, 1, none⟩ = some (.slice (some ⟨bd, 0, none⟩) k c17) ∧ V.cell? ⟨xb, 1, none⟩ = some (.int .i64 x.sl)) (by kernel_rfl) ⟨cs1, e1⟩ (fun hHeld => ?_)
                refine wpAnyH_takeD (i := 0) (v := .pointer (some ⟨b17, 1, none⟩)) (some 111) rfl (by kernel_rfl) (by kernel_rfl) (by kernel_rfl) rfl (fun _ _ _ h => h) (Or.inl ⟨by rfl, by rintro w ⟨hs1, hs2⟩; first | rfl | (go_simp; done) | (go_simp; rfl)⟩) (by assumption) ?_
                simp only [Act.put, List.setIfInBounds_toArray, List.set_cons_zero, List.set_cons_succ]
                refine wpAnyH_takeD (i := 1) (v := .slice (some ⟨bd, 0, none⟩) k c17) (some 112) rfl (by kernel_rfl) (by kernel_rfl) (by kernel_rfl) rfl (fun _ _ _ h => h) (yieldsIf_load_run (by rfl) _ rfl rfl (fun _ hs => cell_load (fun W => by kernel_rfl) hs.1)) (by assumption) ?_
                simp only [Act.put, List.setIfInBounds_toArray, List.set_cons_zero, List.set_cons_succ]
                refine wpAnyH_takeD (i := 2) (v := .pointer (some ⟨b17, 1, none⟩)) (some 113) rfl (by kernel_rfl) (by kernel_rfl) (by kernel_rfl) rfl (fun _ _ _ h => h) (Or.inl ⟨by rfl, by rintro w ⟨hs1, hs2⟩; first | rfl | (go_simp; done) | (go_simp; rfl)⟩) (by assumption) ?_
                simp only [Act.put, List.setIfInBounds_toArray, List.set_cons_zero, List.set_cons_succ]
                refine wpAnyH_takeD (i := 3) (v := .slice (some ⟨bd, 0, none⟩) k c17) (some 114) rfl (by kernel_rfl) (by kernel_rfl) (by kernel_rfl) rfl (fun _ _ _ h => h) (yieldsIf_load_run (by rfl) _ rfl rfl (fun _ hs => cell_load (fun W => by kernel_rfl) hs.1)) (by assumption) ?_
                simp only [Act.put, List.setIfInBounds_toArray, List.set_cons_zero, List.set_cons_succ]
                refine wpAnyH_takeD (i := 4) (v := .pointer (some ⟨bd, 0, none⟩)) (some 115) rfl (by kernel_rfl) (by kernel_rfl) (by kernel_rfl) rfl (fun _ _ _ h => h) (yieldsIf_index_run (by rfl) _ _ rfl rfl rfl (fun W => slc_at0 Tryz.underlying39 (fun W => by kernel_rfl) bd k c17 0 (by omega) W)) (by assumption) ?_
                simp only [Act.put, List.setIfInBounds_toArray, List.set_cons_zero, List.set_cons_succ]
                refine wpAnyH_takeD (i := 6) (v := .pointer (some ⟨xb, 1, none⟩)) (some 117) rfl (by kernel_rfl) (by kernel_rfl) (by kernel_rfl) rfl (fun _ _ _ h => h) (Or.inl ⟨by rfl, by rintro w ⟨hs1, hs2⟩; first | rfl | (go_simp; done) | (go_simp; rfl)⟩) (by assumption) ?_
                simp only [Act.put, List.setIfInBounds_toArray, List.set_cons_zero, List.set_cons_succ]
                refine wpAnyH_takeD (i := 7) (v := .int .i64 x.sl) (some 118) rfl (by kernel_rfl) (by kernel_rfl) (by kernel_rfl) rfl (fun _ _ _ h => h) (yieldsIf_load_run (by rfl) _ rfl rfl (fun _ hs => cell_load (fun W => by kernel_rfl) hs.2)) (by assumption) ?_
                simp only [Act.put, List.setIfInBounds_toArray, List.set_cons_zero, List.set_cons_succ]
                refine wpAnyH_ready (rs := [5, 8]) (by kernel_rfl) (by simp) ?_
                refine AllReadyH.cons rfl (fun K hK => ?_) (AllReadyH.cons rfl (fun K hK => ?_) AllReadyH.nil)
                · refine step_load_run (d := some 116) (cell_load (W := w9.drew) (fun W => by kernel_rfl) cb0) _ rfl rfl rfl rfl ?_
                  refine hK.out _ _ ⟨cs1, e1⟩ (fun hHeld => ?_)
                  clear hK
                  try simp only [Act.put, List.setIfInBounds_toArray, List.set_cons_zero, List.set_cons_succ]
                  refine wpAnyH_ready (rs := [8]) (by kernel_rfl) (by simp) ?_
                  refine AllReadyH.cons rfl (fun K hK => ?_) AllReadyH.nil
                  go_simp
                  refine (cpC.out _).mono ?_
                  rintro e wp1 ⟨rfl, rfl⟩
                  refine hK.out _ _ ⟨cs1, e1⟩ (fun hHeld => ?_)
                  clear hK
                  try simp only [Act.put, List.setIfInBounds_toArray, List.set_cons_zero, List.set_cons_succ]
                  refine wpAnyH_takeD (i := 9) (v := .string ((D.getD 0 ⟨#[]⟩).extract 0 vcpC)) (some 120) rfl (by kernel_rfl) (by kernel_rfl) (by kernel_rfl) rfl (fun _ _ _ h => h) (yieldsIf_hi_run (by rfl) _ _ rfl rfl rfl (fun W => str_hi_at (D.getD 0 ⟨#[]⟩) vcpC (by omega) W)) (by assumption) ?_
                  simp only [Act.put, List.setIfInBounds_toArray, List.set_cons_zero, List.set_cons_succ]
                  refine wpAnyH_takeD (i := 10) (v := .pointer (some ⟨bd, 0, none⟩)) (some 121) rfl (by kernel_rfl) (by kernel_rfl) (by kernel_rfl) rfl (fun _ _ _ h => h) (yieldsIf_index_run (by rfl) _ _ rfl rfl rfl (fun W => slc_at0 Tryz.underlying39 (fun W => by kernel_rfl) bd k c17 0 (by omega) W)) (by assumption) ?_
                  simp only [Act.put, List.setIfInBounds_toArray, List.set_cons_zero, List.set_cons_succ]
                  refine wpAnyH_ready (rs := [11]) (by kernel_rfl) (by simp) ?_
                  refine AllReadyH.cons rfl (fun K hK => ?_) AllReadyH.nil
                  refine step_store_run (d := none) (str_store (W := w9.drew) ⟨_, rfl⟩ cb0 fb0) _ _ rfl rfl rfl rfl rfl ?_
                  refine hK.out _ _ HSS.out (fun hHeld => ?_)
                  clear hK
                  try simp only [Act.put, List.setIfInBounds_toArray, List.set_cons_zero, List.set_cons_succ]
                  refine wpAnyH_done (by kernel_rfl) ?_ _
                  clear hHeld
                  go_wp2_with (fail)
                  go_meet
                  exact ⟨_, _, _, _, (HA5.out _ HSJ.out).1, (HA5.out _ HSJ.out).2⟩
                · go_simp
                  refine (cpC.out _).mono ?_
                  rintro e wp1 ⟨rfl, rfl⟩
                  refine hK.out _ _ ⟨cs1, e1⟩ (fun hHeld => ?_)
                  clear hK
                  try simp only [Act.put, List.setIfInBounds_toArray, List.set_cons_zero, List.set_cons_succ]
                  refine wpAnyH_ready (rs := [5]) (by kernel_rfl) (by simp) ?_
                  refine AllReadyH.cons rfl (fun K hK => ?_) AllReadyH.nil
                  refine step_load_run (d := some 116) (cell_load (W := w9.drew) (fun W => by kernel_rfl) cb0) _ rfl rfl rfl rfl ?_
                  refine hK.out _ _ ⟨cs1, e1⟩ (fun hHeld => ?_)
                  clear hK
                  try simp only [Act.put, List.setIfInBounds_toArray, List.set_cons_zero, List.set_cons_succ]
                  refine wpAnyH_takeD (i := 9) (v := .string ((D.getD 0 ⟨#[]⟩).extract 0 vcpC)) (some 120) rfl (by kernel_rfl) (by kernel_rfl) (by kernel_rfl) rfl (fun _ _ _ h => h) (yieldsIf_hi_run (by rfl) _ _ rfl rfl rfl (fun W => str_hi_at (D.getD 0 ⟨#[]⟩) vcpC (by omega) W)) (by assumption) ?_
                  simp only [Act.put, List.setIfInBounds_toArray, List.set_cons_zero, List.set_cons_succ]
                  refine wpAnyH_takeD (i := 10) (v := .pointer (some ⟨bd, 0, none⟩)) (some 121) rfl (by kernel_rfl) (by kernel_rfl) (by kernel_rfl) rfl (fun _ _ _ h => h) (yieldsIf_index_run (by rfl) _ _ rfl rfl rfl (fun W => slc_at0 Tryz.underlying39 (fun W => by kernel_rfl) bd k c17 0 (by omega) W)) (by assumption) ?_
                  simp only [Act.put, List.setIfInBounds_toArray, List.set_cons_zero, List.set_cons_succ]
                  refine wpAnyH_ready (rs := [11]) (by kernel_rfl) (by simp) ?_
                  refine AllReadyH.cons rfl (fun K hK => ?_) AllReadyH.nil
                  refine step_store_run (d := none) (str_store (W := w9.drew) ⟨_, rfl⟩ cb0 fb0) _ _ rfl rfl rfl rfl rfl ?_
                  refine hK.out _ _ HSS.out (fun hHeld => ?_)
                  clear hK
                  try simp only [Act.put, List.setIfInBounds_toArray, List.set_cons_zero, List.set_cons_succ]
                  refine wpAnyH_done (by kernel_rfl) ?_ _
                  clear hHeld
                  go_wp2_with (fail)
                  go_meet
                  exact ⟨_, _, _, _, (HA5.out _ HSJ.out).1, (HA5.out _ HSJ.out).2⟩
              · have t5 : ((vcpU : Int) == 5) = false := by rw [beq_eq_false_iff_ne]; omega
                have HF : Hid (∃ dv dn dc D', P13 W3 w9 Sa Sb ka kb n g (k : Int) (m : Int) B R R xb X ∧ SBy w9 Sa Sb b17 x.n (.slice dv dn dc) D') := Lib.hid (by
                  by_cases h4 : vcpU = 4
                  · obtain ⟨a, b, c, h, h2⟩ := HC.out.2 h4; exact ⟨a, b, c, _, h, h2⟩
                  · exact ⟨_, _, _, _, (HC.out.1 h4).1, (HC.out.1 h4).2.y ⟨HDZ.out.1, HDZ.out.2.1⟩⟩)
                clear HC e1 cpC h5
                go_wp2_with (fail)
                go_meet
                exact HF.out
            case rest =>
            obtain ⟨dv, dn, dc, D', hP9, hY⟩ := hcut
            rename World => w9'
            clear HC e1 cpU cpC
            obtain ⟨X1, hX1⟩ : ∃ X1, stW n R id0 (k : Int) (m : Int) B (x.ls.take q) x.n D' = X1 := ⟨_, rfl⟩
            have hro1 := stW_ok (K := (k : Int)) (M := (m : Int)) (B := B) (id := id0) (N := x.n) (l := x.ls.take q) (data := D') HRO.out
            rw [hX1] at hro1
            have hlen : Hid (X1.2.1.length ≤ 140737488355328) := Lib.hid (by rw [← hX1]; have h1 := stW_len (n := n) (R := R) (id := id0) (K := (k : Int)) (M := (m : Int)) (B := B) (N := x.n) (l := x.ls.take q) (data := D'); have h2 := HSN.out.1; omega)
            have cA := stw_any hP9.sw.ra hP9.sw.tb (20 * i) HRO.out id0 (k : Int) (m : Int) B x.n (.slice sa q sc) (.slice dv dn dc) (x.ls.take q) D' (HSW.out _ _ _ _ _ hP9) (show capOk (.slice sa q sc) from HSN.out.2) (HSB.out _ hP9.from.1) (by have := HSN.out.1; omega) (by have := HSN.out.1; omega) hY.r hY.fits (by have := hY.z.1; omega)
            rw [hX1] at cA
            have P9 := Lib.hid hP9
            have Y9 := Lib.hid hY
            obtain ⟨c0, c1, c2⟩ := hP9.sw.cells
            obtain ⟨d0, d1, _, _⟩ := hY.cells
            clear hP9 hY
            go_wp2_with (fail)
            clear c0 c1 c2 d0 d1
            refine cA.mono ?_
            rintro e w5 ⟨v5, rfl, S5, s5, a5, o5, n5⟩
            have p5 := P9.out.stpA s5 a5
            have y5 := Y9.out.stpA s5
            have cQ := kstw_any p5.q (20 * i) HRO.out id0 (k : Int) (m : Int) B x.n (.slice sa q sc) (.slice dv dn dc) (x.ls.take q) D' (HSW.out _ _ _ _ _ p5) (HSB.out _ p5.from.2) (by have := HSN.out.1; omega) (by have := HSN.out.1; omega) y5.r y5.fits (by have := y5.z.1; omega)
            rw [hX1] at cQ
            obtain ⟨xa, xc, hf5⟩ := o5.reads.form
            rw [List.length_map] at hf5
            subst hf5
            have O5 := Lib.hid (And.intro o5 n5)
            have P5 := Lib.hid p5
            have HL5 := Lib.hid P9.out.lt.2
            obtain ⟨c0, c1, c2⟩ := p5.sw.cells
            obtain ⟨d0, d1, _, _⟩ := y5.cells
            clear cA s5 a5 o5 n5 hX1 p5 y5 P9 Y9
            go_wp2_with (fail)
            clear c0 c1 c2 d0 d1
            refine cQ.mono ?_
            rintro e w6 ⟨v6, rfl, S6, s6, a6, o6, n6⟩
            have p6 := P5.out.stpQ s6 a6
            obtain ⟨ya, yc, hf6⟩ := o6.reads.form
            rw [List.length_map] at hf6
            subst hf6
            have hr5 : Reads w6 (.slice xa X1.2.1.length xc) (X1.2.1.map (.int .i64)) := O5.out.1.reads.stp s6 fun z hz hs => by
              have h1 := (O5.out.1.o.lt z hz)
              have h3 := HL5.out z hs
              omega
            have cI := ints8_any (.slice xa X1.2.1.length xc) (.slice ya X1.2.1.length yc) X1.2.1 X1.2.1 w6 hr5 o6.reads hlen.out hlen.out
            rw [decide_eq_true rfl] at cI
            have P6 := Lib.hid p6
            have te : (X1.2.2 != X1.2.2) = false := bne_self_eq_false _
            clear cQ s6 a6 o6 n6 hr5 p6 P5 O5 hlen
            go_wp2_with (fail)
            refine cI.mono ?_
            rintro e w7 ⟨rfl, b7, -⟩
            have P7 := Lib.hid (P6.out.after b7)
            clear cI P6 b7
            go_wp2_with (fail)
            go_meet
            exact ⟨_, _, _, P7.out, hro1.le (by have := HSN.out.1; omega)⟩
          · as_aux_lemma =>
            obtain ⟨vcpU, hvcpU⟩ := Int.eq_ofNat_of_zero_le (pk_rng x.at_ 9 (by omega)).1
            have hrcpU : vcpU < 9 := by have := (pk_rng x.at_ 9 (by omega)).2; omega
            have cpU : Hid (∀ W, Calls Tryz.prog 8 #[.int .i64 x.at_, .int .i64 9] W fun e w' => e = .returned (.int .i64 (vcpU : Int)) ∧ W = w') := Lib.hid fun W => by rw [← hvcpU]; exact pick13_any x.at_ 9 W (in64_iff.1 (by assumption)).1 (in64_iff.1 (by assumption)).2 (by omega) (by omega)
            clear hvcpU
            obtain ⟨vcpC, hvcpC⟩ := Int.eq_ofNat_of_zero_le (pk_rng x.sl 121 (by omega)).1
            have hrcpC : vcpC < 121 := by have := (pk_rng x.sl 121 (by omega)).2; omega
            have cpC : Hid (∀ W, Calls Tryz.prog 8 #[.int .i64 x.sl, .int .i64 121] W fun e w' => e = .returned (.int .i64 (vcpC : Int)) ∧ W = w') := Lib.hid fun W => by rw [← hvcpC]; exact pick13_any x.sl 121 W (in64_iff.1 (by assumption)).1 (in64_iff.1 (by assumption)).2 (by omega) (by omega)
            clear hvcpC
            have HRO1 : ROk n R 1000000000000 := HRO.out.le (by omega)
            have hP := HPB.out
            have HN := HN7.out
            have CD : Hid (∀ V Sa Sb Ra Rq, P13 W3 V Sa Sb ka kb n g (k : Int) (m : Int) B Ra Rq xb X → Calls Tryz.prog 9 #[.agg #[.int .i64 (k : Int), .int .i64 (m : Int), .int .i64 B], .slice ta tn tc] V (GivesT V (dataL13 k x.ll))) := Lib.hid fun V _ _ _ _ h => data13_any k m B _ x.ll V (by omega) (HLW.out _ _ _ _ _ h) (fun c hc => in64_iff.1 (HIN.out.1 c hc)) (by have := HIN.out.2.1; omega)
            have hdl := dataL13_len k x.ll
            have hds := (data_rect (dataL13_right k x.ll)).s
            obtain ⟨D, hD⟩ : ∃ D, dataL13 k x.ll = D := ⟨_, rfl⟩
            rw [hD] at CD hdl hds
            have HDL := Lib.hid hdl
            have hk14 : 1 ≤ k ∧ k ≤ 4 := by omega
            have HDZ : Hid (D.length ≤ 4 ∧ (∀ t ∈ D, t.size ≤ 120) ∧ (D.getD 0 ⟨#[]⟩).size = 120) := Lib.hid ⟨by omega, fun t ht => by
              obtain ⟨i, hi, e⟩ := List.getElem_of_mem ht
              have h1 := hds i (by omega)
              rw [List.getD_eq_getElem?_getD, List.getElem?_eq_getElem hi] at h1
              rw [← e]; exact Nat.le_of_eq h1, hds 0 (by omega)⟩
            have HK14 := Lib.hid hk14
            have HS7 : Hid (∀ V Sa Sb Ra Rq, P13 W3 V Sa Sb ka kb n g (k : Int) (m : Int) B Ra Rq xb X → (V.heap[g]? = some (.cells #[.int .i64 (k : Int), .int .i64 (m : Int), .int .i64 B] 23 (0, 0)) ∧ V.cell? ⟨xb, 2, none⟩ = some (.int .i64 x.n) ∧ V.cell? ⟨xb, 5, none⟩ = some (.slice ta tn tc))) := Lib.hid fun V _ _ _ _ h => ⟨h.sw.gb, hS2.out _ _ _ _ _ h, hS5.out _ _ _ _ _ h⟩
            have HS8 : Hid (∀ V Sa Sb Ra Rq (o : Obj), P13 W3 V Sa Sb ka kb n g (k : Int) (m : Int) B Ra Rq xb X → ((fun V => V.heap[g]? = some (.cells #[.int .i64 (k : Int), .int .i64 (m : Int), .int .i64 B] 23 (0, 0)) ∧ V.cell? ⟨xb, 2, none⟩ = some (.int .i64 x.n) ∧ V.cell? ⟨xb, 5, none⟩ = some (.slice ta tn tc)) (V.alloc o))) := Lib.hid fun V _ _ _ _ o h => HS7.out _ _ _ _ _ (h.after ((Below.refl _ _).alloc (Nat.le_refl _) o))
            have hPd := hP.after (Below.drewZ wb)
            have FIN : Hid (∀ w7 n7 x7 y7 B7, P13 W3 w7 Sa Sb ka kb n g (k : Int) (m : Int) B R R xb X → Own w7 B7 9 (.slice x7 n7 y7) (tx D) → wb.heap.size ≤ B7 → ∃ b17 bd c, (Value.pointer (some ⟨w7.heap.size, 0, none⟩)) = .pointer (some ⟨b17, 0, none⟩) ∧ (wb.heap.size ≤ b17 ∧ wb.heap.size ≤ bd) ∧ P13 W3 (w7.alloc (.cells #[.int .i64 x.n, .slice x7 n7 y7] 42)) Sa Sb ka kb n g (k : Int) (m : Int) B R R xb X ∧ SBx (w7.alloc (.cells #[.int .i64 x.n, .slice x7 n7 y7] 42)) Sa Sb b17 bd k c x.n D) := Lib.hid fun w7 n7 x7 y7 B7 p7 o7 hB7 => by
              have ba : Below w7.heap.size w7 (w7.alloc (.cells #[.int .i64 x.n, .slice x7 n7 y7] 42)) := (Below.refl _ _).alloc (Nat.le_refl _) _
              have hs8 : (w7.alloc (.cells #[.int .i64 x.n, .slice x7 n7 y7] 42)).heap[w7.heap.size]? = some (.cells #[.int .i64 x.n, .slice x7 n7 y7] 42 (0, 0)) := heap_alloc_new _ _
              have hHN := HN7.out
              rcases o7.o.2 with ⟨_, h0⟩ | ⟨gd, cap, cur, hv7, _⟩
              · have := HDL.out
                have := HK14.out
                have e0 : D.length = 0 := by simpa [tx] using h0
                omega
              · have e1 : x7 = some ⟨gd, 0, none⟩ ∧ n7 = k ∧ y7 = cap := by
                  injection hv7 with z1 z2 z3
                  exact ⟨z1, by rw [z2]; simp [tx]; exact HDL.out, z3⟩
                obtain ⟨rfl, rfl, rfl⟩ := e1
                have hgd := o7.o.lt gd rfl
                refine ⟨w7.heap.size, gd, y7, rfl, ⟨by omega, by omega⟩, p7.after ba, hs8, (o7.after ba).down (Nat.zero_le _), ⟨fun z => ?_, fun z => ?_, fun z => ?_, fun z => ?_⟩, by omega⟩
                · have := p7.lt.1 _ z; omega
                · have := p7.lt.2 _ z; omega
                · have := HPB.out.lt.1 _ z; omega
                · have := HPB.out.lt.2 _ z; omega
            have FINB : Hid (∀ w7 n7 x7 y7, P13 W3 w7 Sa Sb ka kb n g (k : Int) (m : Int) B R R xb X → Own w7 (wb.drew.alloc (.cells #[.int .i64 0, .slice none 0 0] 42)).heap.size 9 (.slice x7 n7 y7) (tx D) → Below (wb.drew.alloc (.cells #[.int .i64 0, .slice none 0 0] 42)).heap.size (wb.drew.alloc (.cells #[.int .i64 0, .slice none 0 0] 42)) w7 → w7.heap[wb.drew.heap.size]? = some (.cells #[.int .i64 0, .slice none 0 0] 42 (0, 0)) ∧ P13 W3 (w7.setRow wb.drew.heap.size #[.int .i64 x.n, .slice x7 n7 y7]) Sa Sb ka kb n g (k : Int) (m : Int) B R R xb X ∧ ∃ b17 bd c, (Value.pointer (some ⟨wb.drew.heap.size, 0, none⟩)) = .pointer (some ⟨b17, 0, none⟩) ∧ (wb.heap.size ≤ b17 ∧ wb.heap.size ≤ bd) ∧ P13 W3 (w7.setRow wb.drew.heap.size #[.int .i64 x.n, .slice x7 n7 y7]) Sa Sb ka kb n g (k : Int) (m : Int) B R R xb X ∧ SBx (w7.setRow wb.drew.heap.size #[.int .i64 x.n, .slice x7 n7 y7]) Sa Sb b17 bd k c x.n D) := Lib.hid fun w7 n7 x7 y7 p7 o7 b7 => by
              have hdz : wb.drew.heap.size = wb.heap.size := rfl
              have hsz : (wb.drew.alloc (.cells #[.int .i64 0, .slice none 0 0] 42)).heap.size = wb.heap.size + 1 := by simp
              have hb7 : w7.heap[wb.drew.heap.size]? = some (.cells #[.int .i64 0, .slice none 0 0] 42 (0, 0)) := (b7.block _ (by omega)).trans (heap_alloc_new _ _)
              have hlt := HPB.out.lt
              have hgl := HPB.out.sw.gl
              have hxl := HPB.out.xl
              have hbs := HPB.out.b.size
              have hPx : P13 W3 (w7.setRow wb.drew.heap.size #[.int .i64 x.n, .slice x7 n7 y7]) Sa Sb ka kb n g (k : Int) (m : Int) B R R xb X := p7.stpT (Stp.row13 w7 _ _) (fun z e => by have e2 : z = wb.drew.heap.size := e; omega) (fun z hz e => by have e2 : z = wb.drew.heap.size := e; have := hlt.1 z hz; omega) (fun z hz e => by have e2 : z = wb.drew.heap.size := e; have := hlt.2 z hz; omega) (fun e => by have e2 : g = wb.drew.heap.size := e; omega) (fun e => by have e2 : xb = wb.drew.heap.size := e; omega)
              refine ⟨hb7, hPx, ?_⟩
              rcases o7.o.2 with ⟨_, h0⟩ | ⟨gd, cap, cur, hv7, _⟩
              · have := HDL.out
                have := HK14.out
                have e0 : D.length = 0 := by simpa [tx] using h0
                omega
              · have e1 : x7 = some ⟨gd, 0, none⟩ ∧ n7 = k ∧ y7 = cap := by
                  injection hv7 with z1 z2 z3
                  exact ⟨z1, by rw [z2]; simp [tx]; exact HDL.out, z3⟩
                obtain ⟨rfl, rfl, rfl⟩ := e1
                have hgd := o7.o.lt gd rfl
                have hne : gd ≠ wb.drew.heap.size := by omega
                refine ⟨wb.drew.heap.size, gd, y7, rfl, ⟨by omega, by omega⟩, hPx, setRow_heap w7 _ _ _ _ _ hb7, (o7.sameBlock (row13_heap w7 _ hne)).down (Nat.zero_le _), ⟨fun z => ?_, fun z => ?_, fun z => ?_, fun z => ?_⟩, hne⟩
                · have := hlt.1 _ z; omega
                · have := hlt.2 _ z; omega
                · have := hlt.1 _ z; omega
                · have := hlt.2 _ z; omega
            clear hD HN hdl hds hk14
            go_upto_region 17 with (fail)
            go_cut [17] from 92 to 98 (fun s17 wx => ∃ b17 bd c, s17 = .pointer (some ⟨b17, 0, none⟩) ∧ (wb.heap.size ≤ b17 ∧ wb.heap.size ≤ bd) ∧ P13 W3 wx Sa Sb ka kb n g (k : Int) (m : Int) B R R xb X ∧ SBx wx Sa Sb b17 bd k c x.n D)
            case first =>
              refine wp_region_held_drew (S := fun V => V.heap[g]? = some (.cells #[.int .i64 (k : Int), .int .i64 (m : Int), .int .i64 B] 23 (0, 0)) ∧ V.cell? ⟨xb, 2, none⟩ = some (.int .i64 x.n) ∧ V.cell? ⟨xb, 5, none⟩ = some (.slice ta tn tc)) (by kernel_rfl) (HS7.out _ _ _ _ _ hPd) (fun hHeld => ?_)
              refine wpAnyH_takeD (i := 0) (v := .pointer (some ⟨xb, 2, none⟩)) (some 92) rfl (by kernel_rfl) (by kernel_rfl) (by kernel_rfl) rfl (fun _ _ _ h => h) (Or.inl ⟨by rfl, by rintro w ⟨hs1, hs2, hs3⟩; first | rfl | (go_simp; done) | (go_simp; rfl)⟩) (by assumption) ?_
              simp only [Act.put, List.setIfInBounds_toArray, List.set_cons_zero, List.set_cons_succ]
              refine wpAnyH_takeD (i := 1) (v := .int .i64 x.n) (some 93) rfl (by kernel_rfl) (by kernel_rfl) (by kernel_rfl) rfl (fun _ _ _ h => h) (yieldsIf_load_run (by rfl) _ rfl rfl (fun _ hs => cell_load (fun W => by kernel_rfl) hs.2.1)) (by assumption) ?_
              simp only [Act.put, List.setIfInBounds_toArray, List.set_cons_zero, List.set_cons_succ]
              refine wpAnyH_takeD (i := 2) (v := .agg #[.int .i64 (k : Int), .int .i64 (m : Int), .int .i64 B]) (some 94) rfl (by kernel_rfl) (by kernel_rfl) (by kernel_rfl) rfl (fun _ _ _ h => h) (yieldsIf_load_run (by rfl) _ rfl rfl (fun _ hs => geo_load hs.1)) (by assumption) ?_
              simp only [Act.put, List.setIfInBounds_toArray, List.set_cons_zero, List.set_cons_succ]
              refine wpAnyH_takeD (i := 3) (v := .pointer (some ⟨xb, 5, none⟩)) (some 95) rfl (by kernel_rfl) (by kernel_rfl) (by kernel_rfl) rfl (fun _ _ _ h => h) (Or.inl ⟨by rfl, by rintro w ⟨hs1, hs2, hs3⟩; first | rfl | (go_simp; done) | (go_simp; rfl)⟩) (by assumption) ?_
              simp only [Act.put, List.setIfInBounds_toArray, List.set_cons_zero, List.set_cons_succ]
              refine wpAnyH_takeD (i := 4) (v := .slice ta tn tc) (some 96) rfl (by kernel_rfl) (by kernel_rfl) (by kernel_rfl) rfl (fun _ _ _ h => h) (yieldsIf_load_run (by rfl) _ rfl rfl (fun _ hs => cell_load (fun W => by kernel_rfl) hs.2.2)) (by assumption) ?_
              simp only [Act.put, List.setIfInBounds_toArray, List.set_cons_zero, List.set_cons_succ]
              refine wpAnyH_ready (rs := [5, 7]) (by kernel_rfl) (by simp) ?_
              refine AllReadyH.cons rfl (fun K hK => ?_) (AllReadyH.cons rfl (fun K hK => ?_) AllReadyH.nil)
              · go_simp
                refine (CD.out _ _ _ _ _ hPd).mono ?_
                rintro e w7 ⟨v7, rfl, o7, b7⟩
                obtain ⟨x7, y7, hf7⟩ := o7.reads.form
                rw [List.length_map] at hf7
                subst hf7
                have p7 := hPd.after b7
                refine hK.out _ _ (HS7.out _ _ _ _ _ p7) (fun hHeld => ?_)
                clear hK
                try simp only [Act.put, List.setIfInBounds_toArray, List.set_cons_zero, List.set_cons_succ]
                refine wpAnyH_takeD (i := 6) (v := .agg #[.int .i64 x.n, .slice x7 D.length y7]) (some 98) rfl (by kernel_rfl) (by kernel_rfl) (by kernel_rfl) rfl (fun _ _ _ h => h) (Or.inl ⟨by rfl, by rintro w ⟨hs1, hs2, hs3⟩; first | rfl | (go_simp; done) | (go_simp; rfl)⟩) (by assumption) ?_
                simp only [Act.put, List.setIfInBounds_toArray, List.set_cons_zero, List.set_cons_succ]
                refine wpAnyH_ready (rs := [7]) (by kernel_rfl) (by simp) ?_
                refine AllReadyH.cons rfl (fun K hK => ?_) AllReadyH.nil
                refine step_alloc_run (d := some 17) (stripe_alloc w7) rfl rfl rfl ?_
                refine hK.out _ _ (HS8.out _ _ _ _ _ _ p7) (fun hHeld => ?_)
                clear hK
                try simp only [Act.put, List.setIfInBounds_toArray, List.set_cons_zero, List.set_cons_succ]
                refine wpAnyH_ready (rs := [8]) (by kernel_rfl) (by simp) ?_
                refine AllReadyH.cons rfl (fun K hK => ?_) AllReadyH.nil
                refine step_store_run (d := none) (stripe_store w7 x.n x7 D.length y7) _ _ rfl rfl rfl rfl rfl ?_
                refine hK.out _ _ (HS8.out _ _ _ _ _ _ p7) (fun hHeld => ?_)
                clear hK
                try simp only [Act.put, List.setIfInBounds_toArray, List.set_cons_zero, List.set_cons_succ]
                refine wpAnyH_done (by kernel_rfl) ?_ _
                have hfin := FIN.out w7 D.length x7 y7 _ p7 o7 (Nat.le_refl _)
                clear hHeld p7 o7 b7 hPd
                go_wp2_with (fail)
                go_meet
                exact hfin
              · refine step_alloc_run (d := some 17) (stripe_alloc wb.drew) rfl rfl rfl ?_
                refine hK.out _ _ (HS8.out _ _ _ _ _ _ hPd) (fun hHeld => ?_)
                clear hK
                try simp only [Act.put, List.setIfInBounds_toArray, List.set_cons_zero, List.set_cons_succ]
                have ba := (Below.refl wb.drew.heap.size wb.drew).alloc (Nat.le_refl _) (.cells #[.int .i64 0, .slice none 0 0] 42)
                have pa := hPd.after ba
                refine wpAnyH_ready (rs := [5]) (by kernel_rfl) (by simp) ?_
                refine AllReadyH.cons rfl (fun K hK => ?_) AllReadyH.nil
                go_simp
                refine (CD.out _ _ _ _ _ pa).mono ?_
                rintro e w7 ⟨v7, rfl, o7, b7⟩
                obtain ⟨x7, y7, hf7⟩ := o7.reads.form
                rw [List.length_map] at hf7
                subst hf7
                have p7 := pa.after b7
                refine hK.out _ _ (HS7.out _ _ _ _ _ p7) (fun hHeld => ?_)
                clear hK
                try simp only [Act.put, List.setIfInBounds_toArray, List.set_cons_zero, List.set_cons_succ]
                refine wpAnyH_takeD (i := 6) (v := .agg #[.int .i64 x.n, .slice x7 D.length y7]) (some 98) rfl (by kernel_rfl) (by kernel_rfl) (by kernel_rfl) rfl (fun _ _ _ h => h) (Or.inl ⟨by rfl, by rintro w ⟨hs1, hs2, hs3⟩; first | rfl | (go_simp; done) | (go_simp; rfl)⟩) (by assumption) ?_
                simp only [Act.put, List.setIfInBounds_toArray, List.set_cons_zero, List.set_cons_succ]
                obtain ⟨hb7, hx7⟩ := FINB.out w7 D.length x7 y7 p7 o7 b7
                refine wpAnyH_ready (rs := [8]) (by kernel_rfl) (by simp) ?_
                refine AllReadyH.cons rfl (fun K hK => ?_) AllReadyH.nil
                refine step_store_run (d := none) (stripe_storeR w7 wb.drew.heap.size hb7 x.n x7 D.length y7) _ _ rfl rfl rfl rfl rfl ?_
                refine hK.out _ _ (HS7.out _ _ _ _ _ hx7.1) (fun hHeld => ?_)
                clear hK
                try simp only [Act.put, List.setIfInBounds_toArray, List.set_cons_zero, List.set_cons_succ]
                refine wpAnyH_done (by kernel_rfl) ?_ _
                have hfin := hx7.2
                clear hb7 hx7 pa ba
                clear hHeld p7 o7 b7 hPd
                go_wp2_with (fail)
                go_meet
                exact hfin
            case rest =>
            obtain ⟨b17, bd, c17, rfl, hbb, hP8, hSB⟩ := hcut
            rename World => w8
            clear FIN FINB hPd CD hP
            have HDL2 := HDL.out
            have hk14 := HK14.out
            have hgl := HPB.out.sw.gl
            have hxl := HPB.out.xl
            have hbs := HPB.out.b.size
            obtain ⟨a1, n1, c1, hlo, hy1⟩ := hSB.tail hk14.1 HDL2 ⟨HDZ.out.1, HDZ.out.2.1⟩
            have hy0 := hSB.y ⟨HDZ.out.1, HDZ.out.2.1⟩
            obtain ⟨cs0, cs1, fs0, fs1⟩ := hy0.cells
            have HA4 : Hid (P13 W3 (w8.setCell ⟨b17, 1, none⟩ (.slice a1 n1 c1)) Sa Sb ka kb n g (k : Int) (m : Int) B R R xb X ∧ SBy (w8.setCell ⟨b17, 1, none⟩ (.slice a1 n1 c1)) Sa Sb b17 x.n (.slice a1 n1 c1) D.tail) := Lib.hid ⟨hP8.put (by omega) (by omega) (by omega) hSB.na.1 hSB.na.2.1 1 _, hy1⟩
            have HA0 : Hid (P13 W3 w8 Sa Sb ka kb n g (k : Int) (m : Int) B R R xb X ∧ SBx w8 Sa Sb b17 bd k c17 x.n D) := Lib.hid ⟨hP8, hSB⟩
            have HNE : Hid (W3.heap.size ≤ bd ∧ g ≠ bd ∧ xb ≠ bd) := Lib.hid (by omega)
            have e3 := hS3.out _ _ _ _ _ hP8
            clear hy0 hy1 hSB hP8 hbb hgl hxl hbs hk14 HDL2
            go_wp2_with (fail)
            refine (cpU.out _).mono ?_
            rintro e wp1 ⟨rfl, rfl⟩
            clear e3
            go_upto_if 102 with (fail)
            go_cut [] from 99 to 121 (fun wx => (vcpU ≠ 4 → P13 W3 wx Sa Sb ka kb n g (k : Int) (m : Int) B R R xb X ∧ SBx wx Sa Sb b17 bd k c17 x.n D) ∧ (vcpU = 4 → ∃ a1 n1 c1, P13 W3 wx Sa Sb ka kb n g (k : Int) (m : Int) B R R xb X ∧ SBy wx Sa Sb b17 x.n (.slice a1 n1 c1) D.tail))
            case first =>
              by_cases h4 : vcpU = 4
              · have t4 : ((vcpU : Int) == 4) = true := by rw [h4]; rfl
                have H4c := Lib.hid h4
                clear HA0 h4
                go_wp2_with (fail)
                go_meet
                exact ⟨fun h => absurd H4c.out h, fun _ => ⟨_, _, _, HA4.out.1, HA4.out.2⟩⟩
              · have t4 : ((vcpU : Int) == 4) = false := by rw [beq_eq_false_iff_ne]; omega
                have H4c := Lib.hid h4
                clear HA4 hlo h4
                go_wp2_with (fail)
                go_meet
                exact ⟨fun _ => HA0.out, fun h => absurd h H4c.out⟩
            case rest =>
            rename World => w9
            have hPw : P13 W3 w9 Sa Sb ka kb n g (k : Int) (m : Int) B R R xb X := by
              by_cases h4 : vcpU = 4
              · obtain ⟨_, _, _, h, _⟩ := hcut.2 h4; exact h
              · exact (hcut.1 h4).1
            have e3 := hS3.out _ _ _ _ _ hPw
            have e1 := hS1.out _ _ _ _ _ hPw
            have HC := Lib.hid hcut
            clear HA0 HA4 hlo cs0 cs1 fs0 fs1 hPw hcut
            go_wp2_with (fail)
            refine (cpU.out _).mono ?_
            rintro e wp1 ⟨rfl, rfl⟩
            clear e3
            go_upto_if 110 with (fail)
            go_cut [] from 99 to 121 (fun wx => ∃ dv dn dc D', P13 W3 wx Sa Sb ka kb n g (k : Int) (m : Int) B R R xb X ∧ SBy wx Sa Sb b17 x.n (.slice dv dn dc) D')
            case first =>
              by_cases h5 : vcpU = 5
              · have t5 : ((vcpU : Int) == 5) = true := by rw [h5]; rfl
                obtain ⟨hP9, hSB⟩ := HC.out.1 (by omega)
                obtain ⟨cs0, cs1, fs0, fs1⟩ := (hSB.y ⟨HDZ.out.1, HDZ.out.2.1⟩).cells
                have hk14 := HK14.out
                obtain ⟨cb0, fb0⟩ := hSB.first hk14.1 HDL.out
                have HA5 : Hid (∀ s : ByteArray, s.size ≤ 120 → P13 W3 ((w9.drew).setCell ⟨bd, 0, none⟩ (.string s)) Sa Sb ka kb n g (k : Int) (m : Int) B R R xb X ∧ SBy ((w9.drew).setCell ⟨bd, 0, none⟩ (.string s)) Sa Sb b17 x.n (.slice (some ⟨bd, 0, none⟩) k c17) (D.set 0 s)) := Lib.hid fun s hs => by
                  have hPz := hP9.after (Below.drewZ w9)
                  have hSz : SBx w9.drew Sa Sb b17 bd k c17 x.n D := ⟨hSB.s, hSB.o.after (Below.drewZ w9), hSB.na, hSB.ne⟩
                  exact ⟨hPz.put HNE.out.1 HNE.out.2.1 HNE.out.2.2 hSB.na.2.2.1 hSB.na.2.2.2 0 _, hSz.cut ⟨HDZ.out.1, HDZ.out.2.1⟩ s hs⟩
                clear hP9 hSB HC h5 hk14
                go_upto_region 21 with (fail)
                have hD0 := HDZ.out.2.2
                have hk14 := HK14.out
                have HSJ : Hid (((D.getD 0 ⟨#[]⟩).extract 0 vcpC).size ≤ 120) := Lib.hid (by simp only [ByteArray.size_extract]; omega)
                have HSS : Hid (((w9.drew).setCell ⟨bd, 0, none⟩ (.string ((D.getD 0 ⟨#[]⟩).extract 0 vcpC))).cell? ⟨b17, 1, none⟩ = some (.slice (some ⟨bd, 0, none⟩) k c17) ∧ ((w9.drew).setCell ⟨bd, 0, none⟩ (.string ((D.getD 0 ⟨#[]⟩).extract 0 vcpC))).cell? ⟨xb, 1, none⟩ = some (.int .i64 x.sl)) := Lib.hid ⟨(HA5.out _ HSJ.out).2.cells.2.1, hS1.out _ _ _ _ _ (HA5.out _ HSJ.out).1⟩
                refine wp_region_held_drew (S := fun V => V.cell? ⟨b17, 1, none⟩ = some (.slice (some ⟨bd, 0, none⟩) k c17) ∧ V.cell? ⟨xb, 1, none⟩ = some (.int .i64 x.sl)) (by kernel_rfl) ⟨cs1, e1⟩ (fun hHeld => ?_)
                refine wpAnyH_takeD (i := 0) (v := .pointer (some ⟨b17, 1, none⟩)) (some 111) rfl (by kernel_rfl) (by kernel_rfl) (by kernel_rfl) rfl (fun _ _ _ h => h) (Or.inl ⟨by rfl, by rintro w ⟨hs1, hs2⟩; first | rfl | (go_simp; done) | (go_simp; rfl)⟩) (by assumption) ?_
                simp only [Act.put, List.setIfInBounds_toArray, List.set_cons_zero, List.set_cons_succ]
                refine wpAnyH_takeD (i := 1) (v := .slice (some ⟨bd, 0, none⟩) k c17) (some 112) rfl (by kernel_rfl) (by kernel_rfl) (by kernel_rfl) rfl (fun _ _ _ h => h) (yieldsIf_load_run (by rfl) _ rfl rfl (fun _ hs => cell_load (fun W => by kernel_rfl) hs.1)) (by assumption) ?_
                simp only [Act.put, List.setIfInBounds_toArray, List.set_cons_zero, List.set_cons_succ]
                refine wpAnyH_takeD (i := 2) (v := .pointer (some ⟨b17, 1, none⟩)) (some 113) rfl (by kernel_rfl) (by kernel_rfl) (by kernel_rfl) rfl (fun _ _ _ h => h) (Or.inl ⟨by rfl, by rintro w ⟨hs1, hs2⟩; first | rfl | (go_simp; done) | (go_simp; rfl)⟩) (by assumption) ?_
                simp only [Act.put, List.setIfInBounds_toArray, List.set_cons_zero, List.set_cons_succ]
                refine wpAnyH_takeD (i := 3) (v := .slice (some ⟨bd, 0, none⟩) k c17) (some 114) rfl (by kernel_rfl) (by kernel_rfl) (by kernel_rfl) rfl (fun _ _ _ h => h) (yieldsIf_load_run (by rfl) _ rfl rfl (fun _ hs => cell_load (fun W => by kernel_rfl) hs.1)) (by assumption) ?_
                simp only [Act.put, List.setIfInBounds_toArray, List.set_cons_zero, List.set_cons_succ]
                refine wpAnyH_takeD (i := 4) (v := .pointer (some ⟨bd, 0, none⟩)) (some 115) rfl (by kernel_rfl) (by kernel_rfl) (by kernel_rfl) rfl (fun _ _ _ h => h) (yieldsIf_index_run (by rfl) _ _ rfl rfl rfl (fun W => slc_at0 Tryz.underlying39 (fun W => by kernel_rfl) bd k c17 0 (by omega) W)) (by assumption) ?_
                simp only [Act.put, List.setIfInBounds_toArray, List.set_cons_zero, List.set_cons_succ]
                refine wpAnyH_takeD (i := 6) (v := .pointer (some ⟨xb, 1, none⟩)) (some 117) rfl (by kernel_rfl) (by kernel_rfl) (by kernel_rfl) rfl (fun _ _ _ h => h) (Or.inl ⟨by rfl, by rintro w ⟨hs1, hs2⟩; first | rfl | (go_simp; done) | (go_simp; rfl)⟩) (by assumption) ?_
                simp only [Act.put, List.setIfInBounds_toArray, List.set_cons_zero, List.set_cons_succ]
                refine wpAnyH_takeD (i := 7) (v := .int .i64 x.sl) (some 118) rfl (by kernel_rfl) (by kernel_rfl) (by kernel_rfl) rfl (fun _ _ _ h => h) (yieldsIf_load_run (by rfl) _ rfl rfl (fun _ hs => cell_load (fun W => by kernel_rfl) hs.2)) (by assumption) ?_
                simp only [Act.put, List.setIfInBounds_toArray, List.set_cons_zero, List.set_cons_succ]
                refine wpAnyH_ready (rs := [5, 8]) (by kernel_rfl) (by simp) ?_
                refine AllReadyH.cons rfl (fun K hK => ?_) (AllReadyH.cons rfl (fun K hK => ?_) AllReadyH.nil)
                · refine step_load_run (d := some 116) (cell_load (W := w9.drew) (fun W => by kernel_rfl) cb0) _ rfl rfl rfl rfl ?_
                  refine hK.out _ _ ⟨cs1, e1⟩ (fun hHeld => ?_)
                  clear hK
                  try simp only [Act.put, List.setIfInBounds_toArray, List.set_cons_zero, List.set_cons_succ]
                  refine wpAnyH_ready (rs := [8]) (by kernel_rfl) (by simp) ?_
                  refine AllReadyH.cons rfl (fun K hK => ?_) AllReadyH.nil
                  go_simp
                  refine (cpC.out _).mono ?_
                  rintro e wp1 ⟨rfl, rfl⟩
                  refine hK.out _ _ ⟨cs1, e1⟩ (fun hHeld => ?_)
                  clear hK
                  try simp only [Act.put, List.setIfInBounds_toArray, List.set_cons_zero, List.set_cons_succ]
                  refine wpAnyH_takeD (i := 9) (v := .string ((D.getD 0 ⟨#[]⟩).extract 0 vcpC)) (some 120) rfl (by kernel_rfl) (by kernel_rfl) (by kernel_rfl) rfl (fun _ _ _ h => h) (yieldsIf_hi_run (by rfl) _ _ rfl rfl rfl (fun W => str_hi_at (D.getD 0 ⟨#[]⟩) vcpC (by omega) W)) (by assumption) ?_
                  simp only [Act.put, List.setIfInBounds_toArray, List.set_cons_zero, List.set_cons_succ]
                  refine wpAnyH_takeD (i := 10) (v := .pointer (some ⟨bd, 0, none⟩)) (some 121) rfl (by kernel_rfl) (by kernel_rfl) (by kernel_rfl) rfl (fun _ _ _ h => h) (yieldsIf_index_run (by rfl) _ _ rfl rfl rfl (fun W => slc_at0 Tryz.underlying39 (fun W => by kernel_rfl) bd k c17 0 (by omega) W)) (by assumption) ?_
                  simp only [Act.put, List.setIfInBounds_toArray, List.set_cons_zero, List.set_cons_succ]
                  refine wpAnyH_ready (rs := [11]) (by kernel_rfl) (by simp) ?_
                  refine AllReadyH.cons rfl (fun K hK => ?_) AllReadyH.nil
                  refine step_store_run (d := none) (str_store (W := w9.drew) ⟨_, rfl⟩ cb0 fb0) _ _ rfl rfl rfl rfl rfl ?_
                  refine hK.out _ _ HSS.out (fun hHeld => ?_)
                  clear hK
                  try simp only [Act.put, List.setIfInBounds_toArray, List.set_cons_zero, List.set_cons_succ]
                  refine wpAnyH_done (by kernel_rfl) ?_ _
                  clear hHeld
                  go_wp2_with (fail)
                  go_meet
                  exact ⟨_, _, _, _, (HA5.out _ HSJ.out).1, (HA5.out _ HSJ.out).2⟩
                · go_simp
                  refine (cpC.out _).mono ?_
                  rintro e wp1 ⟨rfl, rfl⟩
                  refine hK.out _ _ ⟨cs1, e1⟩ (fun hHeld => ?_)
                  clear hK
                  try simp only [Act.put, List.setIfInBounds_toArray, List.set_cons_zero, List.set_cons_succ]
                  refine wpAnyH_ready (rs := [5]) (by kernel_rfl) (by simp) ?_
                  refine AllReadyH.cons rfl (fun K hK => ?_) AllReadyH.nil
                  refine step_load_run (d := some 116) (cell_load (W := w9.drew) (fun W => by kernel_rfl) cb0) _ rfl rfl rfl rfl ?_
                  refine hK.out _ _ ⟨cs1, e1⟩ (fun hHeld => ?_)
                  clear hK
                  try simp only [Act.put, List.setIfInBounds_toArray, List.set_cons_zero, List.set_cons_succ]
                  refine wpAnyH_takeD (i := 9) (v := .string ((D.getD 0 ⟨#[]⟩).extract 0 vcpC)) (some 120) rfl (by kernel_rfl) (by kernel_rfl) (by kernel_rfl) rfl (fun _ _ _ h => h) (yieldsIf_hi_run (by rfl) _ _ rfl rfl rfl (fun W => str_hi_at (D.getD 0 ⟨#[]⟩) vcpC (by omega) W)) (by assumption) ?_
                  simp only [Act.put, List.setIfInBounds_toArray, List.set_cons_zero, List.set_cons_succ]
                  refine wpAnyH_takeD (i := 10) (v := .pointer (some ⟨bd, 0, none⟩)) (some 121) rfl (by kernel_rfl) (by kernel_rfl) (by kernel_rfl) rfl (fun _ _ _ h => h) (yieldsIf_index_run (by rfl) _ _ rfl rfl rfl (fun W => slc_at0 Tryz.underlying39 (fun W => by kernel_rfl) bd k c17 0 (by omega) W)) (by assumption) ?_
                  simp only [Act.put, List.setIfInBounds_toArray, List.set_cons_zero, List.set_cons_succ]
                  refine wpAnyH_ready (rs := [11]) (by kernel_rfl) (by simp) ?_
                  refine AllReadyH.cons rfl (fun K hK => ?_) AllReadyH.nil
                  refine step_store_run (d := none) (str_store (W := w9.drew) ⟨_, rfl⟩ cb0 fb0) _ _ rfl rfl rfl rfl rfl ?_
                  refine hK.out _ _ HSS.out (fun hHeld => ?_)
                  clear hK
                  try simp only [Act.put, List.setIfInBounds_toArray, List.set_cons_zero, List.set_cons_succ]
                  refine wpAnyH_done (by kernel_rfl) ?_ _
                  clear hHeld
                  go_wp2_with (fail)
                  go_meet
                  exact ⟨_, _, _, _, (HA5.out _ HSJ.out).1, (HA5.out _ HSJ.out).2⟩
              · have t5 : ((vcpU : Int) == 5) = false := by rw [beq_eq_false_iff_ne]; omega
                have HF : Hid (∃ dv dn dc D', P13 W3 w9 Sa Sb ka kb n g (k : Int) (m : Int) B R R xb X ∧ SBy w9 Sa Sb b17 x.n (.slice dv dn dc) D') := Lib.hid (by
                  by_cases h4 : vcpU = 4
                  · obtain ⟨a, b, c, h, h2⟩ := HC.out.2 h4; exact ⟨a, b, c, _, h, h2⟩
                  · exact ⟨_, _, _, _, (HC.out.1 h4).1, (HC.out.1 h4).2.y ⟨HDZ.out.1, HDZ.out.2.1⟩⟩)
                clear HC e1 cpC h5
                go_wp2_with (fail)
                go_meet
                exact HF.out
            case rest =>
            obtain ⟨dv, dn, dc, D', hP9, hY⟩ := hcut
            rename World => w9'
            clear HC e1 cpU cpC
            obtain ⟨X1, hX1⟩ : ∃ X1, stW n R id0 (k : Int) (m : Int) B (x.ls.take q) x.n D' = X1 := ⟨_, rfl⟩
            have hro1 := stW_ok (K := (k : Int)) (M := (m : Int)) (B := B) (id := id0) (N := x.n) (l := x.ls.take q) (data := D') HRO.out
            rw [hX1] at hro1
            have hlen : Hid (X1.2.1.length ≤ 140737488355328) := Lib.hid (by rw [← hX1]; have h1 := stW_len (n := n) (R := R) (id := id0) (K := (k : Int)) (M := (m : Int)) (B := B) (N := x.n) (l := x.ls.take q) (data := D'); have h2 := HSN.out.1; omega)
            have cA := stw_any hP9.sw.ra hP9.sw.tb (20 * i) HRO.out id0 (k : Int) (m : Int) B x.n (.slice sa q sc) (.slice dv dn dc) (x.ls.take q) D' (HSW.out _ _ _ _ _ hP9) (show capOk (.slice sa q sc) from HSN.out.2) (HSB.out _ hP9.from.1) (by have := HSN.out.1; omega) (by have := HSN.out.1; omega) hY.r hY.fits (by have := hY.z.1; omega)
            rw [hX1] at cA
            have P9 := Lib.hid hP9
            have Y9 := Lib.hid hY
            obtain ⟨c0, c1, c2⟩ := hP9.sw.cells
            obtain ⟨d0, d1, _, _⟩ := hY.cells
            clear hP9 hY
            go_wp2_with (fail)
            clear c0 c1 c2 d0 d1
            refine cA.mono ?_
            rintro e w5 ⟨v5, rfl, S5, s5, a5, o5, n5⟩
            have p5 := P9.out.stpA s5 a5
            have y5 := Y9.out.stpA s5
            have cQ := kstw_any p5.q (20 * i) HRO.out id0 (k : Int) (m : Int) B x.n (.slice sa q sc) (.slice dv dn dc) (x.ls.take q) D' (HSW.out _ _ _ _ _ p5) (HSB.out _ p5.from.2) (by have := HSN.out.1; omega) (by have := HSN.out.1; omega) y5.r y5.fits (by have := y5.z.1; omega)
            rw [hX1] at cQ
            obtain ⟨xa, xc, hf5⟩ := o5.reads.form
            rw [List.length_map] at hf5
            subst hf5
            have O5 := Lib.hid (And.intro o5 n5)
            have P5 := Lib.hid p5
            have HL5 := Lib.hid P9.out.lt.2
            obtain ⟨c0, c1, c2⟩ := p5.sw.cells
            obtain ⟨d0, d1, _, _⟩ := y5.cells
            clear cA s5 a5 o5 n5 hX1 p5 y5 P9 Y9
            go_wp2_with (fail)
            clear c0 c1 c2 d0 d1
            refine cQ.mono ?_
            rintro e w6 ⟨v6, rfl, S6, s6, a6, o6, n6⟩
            have p6 := P5.out.stpQ s6 a6
            obtain ⟨ya, yc, hf6⟩ := o6.reads.form
            rw [List.length_map] at hf6
            subst hf6
            have hr5 : Reads w6 (.slice xa X1.2.1.length xc) (X1.2.1.map (.int .i64)) := O5.out.1.reads.stp s6 fun z hz hs => by
              have h1 := (O5.out.1.o.lt z hz)
              have h3 := HL5.out z hs
              omega
            have cI := ints8_any (.slice xa X1.2.1.length xc) (.slice ya X1.2.1.length yc) X1.2.1 X1.2.1 w6 hr5 o6.reads hlen.out hlen.out
            rw [decide_eq_true rfl] at cI
            have P6 := Lib.hid p6
            have te : (X1.2.2 != X1.2.2) = false := bne_self_eq_false _
            clear cQ s6 a6 o6 n6 hr5 p6 P5 O5 hlen
            go_wp2_with (fail)
            refine cI.mono ?_
            rintro e w7 ⟨rfl, b7, -⟩
            have P7 := Lib.hid (P6.out.after b7)
            clear cI P6 b7
            go_wp2_with (fail)
            go_meet
            exact ⟨_, _, _, P7.out, hro1.le (by have := HSN.out.1; omega)⟩
          · as_aux_lemma =>
            obtain ⟨vcpU, hvcpU⟩ := Int.eq_ofNat_of_zero_le (pk_rng x.at_ 9 (by omega)).1
            have hrcpU : vcpU < 9 := by have := (pk_rng x.at_ 9 (by omega)).2; omega
            have cpU : Hid (∀ W, Calls Tryz.prog 8 #[.int .i64 x.at_, .int .i64 9] W fun e w' => e = .returned (.int .i64 (vcpU : Int)) ∧ W = w') := Lib.hid fun W => by rw [← hvcpU]; exact pick13_any x.at_ 9 W (in64_iff.1 (by assumption)).1 (in64_iff.1 (by assumption)).2 (by omega) (by omega)
            clear hvcpU
            obtain ⟨vcpC, hvcpC⟩ := Int.eq_ofNat_of_zero_le (pk_rng x.sl 121 (by omega)).1
            have hrcpC : vcpC < 121 := by have := (pk_rng x.sl 121 (by omega)).2; omega
            have cpC : Hid (∀ W, Calls Tryz.prog 8 #[.int .i64 x.sl, .int .i64 121] W fun e w' => e = .returned (.int .i64 (vcpC : Int)) ∧ W = w') := Lib.hid fun W => by rw [← hvcpC]; exact pick13_any x.sl 121 W (in64_iff.1 (by assumption)).1 (in64_iff.1 (by assumption)).2 (by omega) (by omega)
            clear hvcpC
            have HRO1 : ROk n R 1000000000000 := HRO.out.le (by omega)
            have hP := HPB.out
            have HN := HN7.out
            have CD : Hid (∀ V Sa Sb Ra Rq, P13 W3 V Sa Sb ka kb n g (k : Int) (m : Int) B Ra Rq xb X → Calls Tryz.prog 9 #[.agg #[.int .i64 (k : Int), .int .i64 (m : Int), .int .i64 B], .slice ta tn tc] V (GivesT V (dataL13 k x.ll))) := Lib.hid fun V _ _ _ _ h => data13_any k m B _ x.ll V (by omega) (HLW.out _ _ _ _ _ h) (fun c hc => in64_iff.1 (HIN.out.1 c hc)) (by have := HIN.out.2.1; omega)
            have hdl := dataL13_len k x.ll
            have hds := (data_rect (dataL13_right k x.ll)).s
            obtain ⟨D, hD⟩ : ∃ D, dataL13 k x.ll = D := ⟨_, rfl⟩
            rw [hD] at CD hdl hds
            have HDL := Lib.hid hdl
            have hk14 : 1 ≤ k ∧ k ≤ 4 := by omega
            have HDZ : Hid (D.length ≤ 4 ∧ (∀ t ∈ D, t.size ≤ 120) ∧ (D.getD 0 ⟨#[]⟩).size = 120) := Lib.hid ⟨by omega, fun t ht => by
              obtain ⟨i, hi, e⟩ := List.getElem_of_mem ht
              have h1 := hds i (by omega)
              rw [List.getD_eq_getElem?_getD, List.getElem?_eq_getElem hi] at h1
              rw [← e]; exact Nat.le_of_eq h1, hds 0 (by omega)⟩
            have HK14 := Lib.hid hk14
            have HS7 : Hid (∀ V Sa Sb Ra Rq, P13 W3 V Sa Sb ka kb n g (k : Int) (m : Int) B Ra Rq xb X → (V.heap[g]? = some (.cells #[.int .i64 (k : Int), .int .i64 (m : Int), .int .i64 B] 23 (0, 0)) ∧ V.cell? ⟨xb, 2, none⟩ = some (.int .i64 x.n) ∧ V.cell? ⟨xb, 5, none⟩ = some (.slice ta tn tc))) := Lib.hid fun V _ _ _ _ h => ⟨h.sw.gb, hS2.out _ _ _ _ _ h, hS5.out _ _ _ _ _ h⟩
            have HS8 : Hid (∀ V Sa Sb Ra Rq (o : Obj), P13 W3 V Sa Sb ka kb n g (k : Int) (m : Int) B Ra Rq xb X → ((fun V => V.heap[g]? = some (.cells #[.int .i64 (k : Int), .int .i64 (m : Int), .int .i64 B] 23 (0, 0)) ∧ V.cell? ⟨xb, 2, none⟩ = some (.int .i64 x.n) ∧ V.cell? ⟨xb, 5, none⟩ = some (.slice ta tn tc)) (V.alloc o))) := Lib.hid fun V _ _ _ _ o h => HS7.out _ _ _ _ _ (h.after ((Below.refl _ _).alloc (Nat.le_refl _) o))
            have hPd := hP.after (Below.drewZ wb)
            have FIN : Hid (∀ w7 n7 x7 y7 B7, P13 W3 w7 Sa Sb ka kb n g (k : Int) (m : Int) B R R xb X → Own w7 B7 9 (.slice x7 n7 y7) (tx D) → wb.heap.size ≤ B7 → ∃ b17 bd c, (Value.pointer (some ⟨w7.heap.size, 0, none⟩)) = .pointer (some ⟨b17, 0, none⟩) ∧ (wb.heap.size ≤ b17 ∧ wb.heap.size ≤ bd) ∧ P13 W3 (w7.alloc (.cells #[.int .i64 x.n, .slice x7 n7 y7] 42)) Sa Sb ka kb n g (k : Int) (m : Int) B R R xb X ∧ SBx (w7.alloc (.cells #[.int .i64 x.n, .slice x7 n7 y7] 42)) Sa Sb b17 bd k c x.n D) := Lib.hid fun w7 n7 x7 y7 B7 p7 o7 hB7 => by
              have ba : Below w7.heap.size w7 (w7.alloc (.cells #[.int .i64 x.n, .slice x7 n7 y7] 42)) := (Below.refl _ _).alloc (Nat.le_refl _) _
              have hs8 : (w7.alloc (.cells #[.int .i64 x.n, .slice x7 n7 y7] 42)).heap[w7.heap.size]? = some (.cells #[.int .i64 x.n, .slice x7 n7 y7] 42 (0, 0)) := heap_alloc_new _ _
              have hHN := HN7.out
              rcases o7.o.2 with ⟨_, h0⟩ | ⟨gd, cap, cur, hv7, _⟩
              · have := HDL.out
                have := HK14.out
                have e0 : D.length = 0 := by simpa [tx] using h0
                omega
              · have e1 : x7 = some ⟨gd, 0, none⟩ ∧ n7 = k ∧ y7 = cap := by
                  injection hv7 with z1 z2 z3
                  exact ⟨z1, by rw [z2]; simp [tx]; exact HDL.out, z3⟩
                obtain ⟨rfl, rfl, rfl⟩ := e1
                have hgd := o7.o.lt gd rfl
                refine ⟨w7.heap.size, gd, y7, rfl, ⟨by omega, by omega⟩, p7.after ba, hs8, (o7.after ba).down (Nat.zero_le _), ⟨fun z => ?_, fun z => ?_, fun z => ?_, fun z => ?_⟩, by omega⟩
                · have := p7.lt.1 _ z; omega
                · have := p7.lt.2 _ z; omega
                · have := HPB.out.lt.1 _ z; omega
                · have := HPB.out.lt.2 _ z; omega
            have FINB : Hid (∀ w7 n7 x7 y7, P13 W3 w7 Sa Sb ka kb n g (k : Int) (m : Int) B R R xb X → Own w7 (wb.drew.alloc (.cells #[.int .i64 0, .slice none 0 0] 42)).heap.size 9 (.slice x7 n7 y7) (tx D) → Below (wb.drew.alloc (.cells #[.int .i64 0, .slice none 0 0] 42)).heap.size (wb.drew.alloc (.cells #[.int .i64 0, .slice none 0 0] 42)) w7 → w7.heap[wb.drew.heap.size]? = some (.cells #[.int .i64 0, .slice none 0 0] 42 (0, 0)) ∧ P13 W3 (w7.setRow wb.drew.heap.size #[.int .i64 x.n, .slice x7 n7 y7]) Sa Sb ka kb n g (k : Int) (m : Int) B R R xb X ∧ ∃ b17 bd c, (Value.pointer (some ⟨wb.drew.heap.size, 0, none⟩)) = .pointer (some ⟨b17, 0, none⟩) ∧ (wb.heap.size ≤ b17 ∧ wb.heap.size ≤ bd) ∧ P13 W3 (w7.setRow wb.drew.heap.size #[.int .i64 x.n, .slice x7 n7 y7]) Sa Sb ka kb n g (k : Int) (m : Int) B R R xb X ∧ SBx (w7.setRow wb.drew.heap.size #[.int .i64 x.n, .slice x7 n7 y7]) Sa Sb b17 bd k c x.n D) := Lib.hid fun w7 n7 x7 y7 p7 o7 b7 => by
              have hdz : wb.drew.heap.size = wb.heap.size := rfl
              have hsz : (wb.drew.alloc (.cells #[.int .i64 0, .slice none 0 0] 42)).heap.size = wb.heap.size + 1 := by simp
              have hb7 : w7.heap[wb.drew.heap.size]? = some (.cells #[.int .i64 0, .slice none 0 0] 42 (0, 0)) := (b7.block _ (by omega)).trans (heap_alloc_new _ _)
              have hlt := HPB.out.lt
              have hgl := HPB.out.sw.gl
              have hxl := HPB.out.xl
              have hbs := HPB.out.b.size
              have hPx : P13 W3 (w7.setRow wb.drew.heap.size #[.int .i64 x.n, .slice x7 n7 y7]) Sa Sb ka kb n g (k : Int) (m : Int) B R R xb X := p7.stpT (Stp.row13 w7 _ _) (fun z e => by have e2 : z = wb.drew.heap.size := e; omega) (fun z hz e => by have e2 : z = wb.drew.heap.size := e; have := hlt.1 z hz; omega) (fun z hz e => by have e2 : z = wb.drew.heap.size := e; have := hlt.2 z hz; omega) (fun e => by have e2 : g = wb.drew.heap.size := e; omega) (fun e => by have e2 : xb = wb.drew.heap.size := e; omega)
              refine ⟨hb7, hPx, ?_⟩
              rcases o7.o.2 with ⟨_, h0⟩ | ⟨gd, cap, cur, hv7, _⟩
              · have := HDL.out
                have := HK14.out
                have e0 : D.length = 0 := by simpa [tx] using h0
                omega
              · have e1 : x7 = some ⟨gd, 0, none⟩ ∧ n7 = k ∧ y7 = cap := by
                  injection hv7 with z1 z2 z3
                  exact ⟨z1, by rw [z2]; simp [tx]; exact HDL.out, z3⟩
                obtain ⟨rfl, rfl, rfl⟩ := e1
                have hgd := o7.o.lt gd rfl
                have hne : gd ≠ wb.drew.heap.size := by omega
                refine ⟨wb.drew.heap.size, gd, y7, rfl, ⟨by omega, by omega⟩, hPx, setRow_heap w7 _ _ _ _ _ hb7, (o7.sameBlock (row13_heap w7 _ hne)).down (Nat.zero_le _), ⟨fun z => ?_, fun z => ?_, fun z => ?_, fun z => ?_⟩, hne⟩
                · have := hlt.1 _ z; omega
                · have := hlt.2 _ z; omega
                · have := hlt.1 _ z; omega
                · have := hlt.2 _ z; omega
            clear hD HN hdl hds hk14
            go_upto_region 17 with (fail)
            go_cut [17] from 92 to 98 (fun s17 wx => ∃ b17 bd c, s17 = .pointer (some ⟨b17, 0, none⟩) ∧ (wb.heap.size ≤ b17 ∧ wb.heap.size ≤ bd) ∧ P13 W3 wx Sa Sb ka kb n g (k : Int) (m : Int) B R R xb X ∧ SBx wx Sa Sb b17 bd k c x.n D)
            case first =>
              refine wp_region_held_drew (S := fun V => V.heap[g]? = some (.cells #[.int .i64 (k : Int), .int .i64 (m : Int), .int .i64 B] 23 (0, 0)) ∧ V.cell? ⟨xb, 2, none⟩ = some (.int .i64 x.n) ∧ V.cell? ⟨xb, 5, none⟩ = some (.slice ta tn tc)) (by kernel_rfl) (HS7.out _ _ _ _ _ hPd) (fun hHeld => ?_)
              refine wpAnyH_takeD (i := 0) (v := .pointer (some ⟨xb, 2, none⟩)) (some 92) rfl (by kernel_rfl) (by kernel_rfl) (by kernel_rfl) rfl (fun _ _ _ h => h) (Or.inl ⟨by rfl, by rintro w ⟨hs1, hs2, hs3⟩; first | rfl | (go_simp; done) | (go_simp; rfl)⟩) (by assumption) ?_
              simp only [Act.put, List.setIfInBounds_toArray, List.set_cons_zero, List.set_cons_succ]
              refine wpAnyH_takeD (i := 1) (v := .int .i64 x.n) (some 93) rfl (by kernel_rfl) (by kernel_rfl) (by kernel_rfl) rfl (fun _ _ _ h => h) (yieldsIf_load_run (by rfl) _ rfl rfl (fun _ hs => cell_load (fun W => by kernel_rfl) hs.2.1)) (by assumption) ?_
              simp only [Act.put, List.setIfInBounds_toArray, List.set_cons_zero, List.set_cons_succ]
              refine wpAnyH_takeD (i := 2) (v := .agg #[.int .i64 (k : Int), .int .i64 (m : Int), .int .i64 B]) (some 94) rfl (by kernel_rfl) (by kernel_rfl) (by kernel_rfl) rfl (fun _ _ _ h => h) (yieldsIf_load_run (by rfl) _ rfl rfl (fun _ hs => geo_load hs.1)) (by assumption) ?_
              simp only [Act.put, List.setIfInBounds_toArray, List.set_cons_zero, List.set_cons_succ]
              refine wpAnyH_takeD (i := 3) (v := .pointer (some ⟨xb, 5, none⟩)) (some 95) rfl (by kernel_rfl) (by kernel_rfl) (by kernel_rfl) rfl (fun _ _ _ h => h) (Or.inl ⟨by rfl, by rintro w ⟨hs1, hs2, hs3⟩; first | rfl | (go_simp; done) | (go_simp; rfl)⟩) (by assumption) ?_
              simp only [Act.put, List.setIfInBounds_toArray, List.set_cons_zero, List.set_cons_succ]
              refine wpAnyH_takeD (i := 4) (v := .slice ta tn tc) (some 96) rfl (by kernel_rfl) (by kernel_rfl) (by kernel_rfl) rfl (fun _ _ _ h => h) (yieldsIf_load_run (by rfl) _ rfl rfl (fun _ hs => cell_load (fun W => by kernel_rfl) hs.2.2)) (by assumption) ?_
              simp only [Act.put, List.setIfInBounds_toArray, List.set_cons_zero, List.set_cons_succ]
              refine wpAnyH_ready (rs := [5, 7]) (by kernel_rfl) (by simp) ?_
              refine AllReadyH.cons rfl (fun K hK => ?_) (AllReadyH.cons rfl (fun K hK => ?_) AllReadyH.nil)
              · go_simp
                refine (CD.out _ _ _ _ _ hPd).mono ?_
                rintro e w7 ⟨v7, rfl, o7, b7⟩
                obtain ⟨x7, y7, hf7⟩ := o7.reads.form
                rw [List.length_map] at hf7
                subst hf7
                have p7 := hPd.after b7
                refine hK.out _ _ (HS7.out _ _ _ _ _ p7) (fun hHeld => ?_)
                clear hK
                try simp only [Act.put, List.setIfInBounds_toArray, List.set_cons_zero, List.set_cons_succ]
                refine wpAnyH_takeD (i := 6) (v := .agg #[.int .i64 x.n, .slice x7 D.length y7]) (some 98) rfl (by kernel_rfl) (by kernel_rfl) (by kernel_rfl) rfl (fun _ _ _ h => h) (Or.inl ⟨by rfl, by rintro w ⟨hs1, hs2, hs3⟩; first | rfl | (go_simp; done) | (go_simp; rfl)⟩) (by assumption) ?_
                simp only [Act.put, List.setIfInBounds_toArray, List.set_cons_zero, List.set_cons_succ]
                refine wpAnyH_ready (rs := [7]) (by kernel_rfl) (by simp) ?_
                refine AllReadyH.cons rfl (fun K hK => ?_) AllReadyH.nil
                refine step_alloc_run (d := some 17) (stripe_alloc w7) rfl rfl rfl ?_
                refine hK.out _ _ (HS8.out _ _ _ _ _ _ p7) (fun hHeld => ?_)
                clear hK
                try simp only [Act.put, List.setIfInBounds_toArray, List.set_cons_zero, List.set_cons_succ]
                refine wpAnyH_ready (rs := [8]) (by kernel_rfl) (by simp) ?_
                refine AllReadyH.cons rfl (fun K hK => ?_) AllReadyH.nil
                refine step_store_run (d := none) (stripe_store w7 x.n x7 D.length y7) _ _ rfl rfl rfl rfl rfl ?_
                refine hK.out _ _ (HS8.out _ _ _ _ _ _ p7) (fun hHeld => ?_)
                clear hK
                try simp only [Act.put, List.setIfInBounds_toArray, List.set_cons_zero, List.set_cons_succ]
                refine wpAnyH_done (by kernel_rfl) ?_ _
                have hfin := FIN.out w7 D.length x7 y7 _ p7 o7 (Nat.le_refl _)
                clear hHeld p7 o7 b7 hPd
                go_wp2_with (fail)
                go_meet
                exact hfin
              · refine step_alloc_run (d := some 17) (stripe_alloc wb.drew) rfl rfl rfl ?_
                refine hK.out _ _ (HS8.out _ _ _ _ _ _ hPd) (fun hHeld => ?_)
                clear hK
                try simp only [Act.put, List.setIfInBounds_toArray, List.set_cons_zero, List.set_cons_succ]
                have ba := (Below.refl wb.drew.heap.size wb.drew).alloc (Nat.le_refl _) (.cells #[.int .i64 0, .slice none 0 0] 42)
                have pa := hPd.after ba
                refine wpAnyH_ready (rs := [5]) (by kernel_rfl) (by simp) ?_
                refine AllReadyH.cons rfl (fun K hK => ?_) AllReadyH.nil
                go_simp
                refine (CD.out _ _ _ _ _ pa).mono ?_
                rintro e w7 ⟨v7, rfl, o7, b7⟩
                obtain ⟨x7, y7, hf7⟩ := o7.reads.form
                rw [List.length_map] at hf7
                subst hf7
                have p7 := pa.after b7
                refine hK.out _ _ (HS7.out _ _ _ _ _ p7) (fun hHeld => ?_)
                clear hK
                try simp only [Act.put, List.setIfInBounds_toArray, List.set_cons_zero, List.set_cons_succ]
                refine wpAnyH_takeD (i := 6) (v := .agg #[.int .i64 x.n, .slice x7 D.length y7]) (some 98) rfl (by kernel_rfl) (by kernel_rfl) (by kernel_rfl) rfl (fun _ _ _ h => h) (Or.inl ⟨by rfl, by rintro w ⟨hs1, hs2, hs3⟩; first | rfl | (go_simp; done) | (go_simp; rfl)⟩) (by assumption) ?_
                simp only [Act.put, List.setIfInBounds_toArray, List.set_cons_zero, List.set_cons_succ]
                obtain ⟨hb7, hx7⟩ := FINB.out w7 D.length x7 y7 p7 o7 b7
                refine wpAnyH_ready (rs := [8]) (by kernel_rfl) (by simp) ?_
                refine AllReadyH.cons rfl (fun K hK => ?_) AllReadyH.nil
                refine step_store_run (d := none) (stripe_storeR w7 wb.drew.heap.size hb7 x.n x7 D.length y7) _ _ rfl rfl rfl rfl rfl ?_
                refine hK.out _ _ (HS7.out _ _ _ _ _ hx7.1) (fun hHeld => ?_)
                clear hK
                try simp only [Act.put, List.setIfInBounds_toArray, List.set_cons_zero, List.set_cons_succ]
                refine wpAnyH_done (by kernel_rfl) ?_ _
                have hfin := hx7.2
                clear hb7 hx7 pa ba
                clear hHeld p7 o7 b7 hPd
                go_wp2_with (fail)
                go_meet
                exact hfin
            case rest =>
            obtain ⟨b17, bd, c17, rfl, hbb, hP8, hSB⟩ := hcut
            rename World => w8
            clear FIN FINB hPd CD hP
            have HDL2 := HDL.out
            have hk14 := HK14.out
            have hgl := HPB.out.sw.gl
            have hxl := HPB.out.xl
            have hbs := HPB.out.b.size
            obtain ⟨a1, n1, c1, hlo, hy1⟩ := hSB.tail hk14.1 HDL2 ⟨HDZ.out.1, HDZ.out.2.1⟩
            have hy0 := hSB.y ⟨HDZ.out.1, HDZ.out.2.1⟩
            obtain ⟨cs0, cs1, fs0, fs1⟩ := hy0.cells
            have HA4 : Hid (P13 W3 (w8.setCell ⟨b17, 1, none⟩ (.slice a1 n1 c1)) Sa Sb ka kb n g (k : Int) (m : Int) B R R xb X ∧ SBy (w8.setCell ⟨b17, 1, none⟩ (.slice a1 n1 c1)) Sa Sb b17 x.n (.slice a1 n1 c1) D.tail) := Lib.hid ⟨hP8.put (by omega) (by omega) (by omega) hSB.na.1 hSB.na.2.1 1 _, hy1⟩
            have HA0 : Hid (P13 W3 w8 Sa Sb ka kb n g (k : Int) (m : Int) B R R xb X ∧ SBx w8 Sa Sb b17 bd k c17 x.n D) := Lib.hid ⟨hP8, hSB⟩
            have HNE : Hid (W3.heap.size ≤ bd ∧ g ≠ bd ∧ xb ≠ bd) := Lib.hid (by omega)
            have e3 := hS3.out _ _ _ _ _ hP8
            clear hy0 hy1 hSB hP8 hbb hgl hxl hbs hk14 HDL2
            go_wp2_with (fail)
            refine (cpU.out _).mono ?_
            rintro e wp1 ⟨rfl, rfl⟩
            clear e3
            go_upto_if 102 with (fail)
            go_cut [] from 99 to 121 (fun wx => (vcpU ≠ 4 → P13 W3 wx Sa Sb ka kb n g (k : Int) (m : Int) B R R xb X ∧ SBx wx Sa Sb b17 bd k c17 x.n D) ∧ (vcpU = 4 → ∃ a1 n1 c1, P13 W3 wx Sa Sb ka kb n g (k : Int) (m : Int) B R R xb X ∧ SBy wx Sa Sb b17 x.n (.slice a1 n1 c1) D.tail))
            case first =>
              by_cases h4 : vcpU = 4
              · have t4 : ((vcpU : Int) == 4) = true := by rw [h4]; rfl
                have H4c := Lib.hid h4
                clear HA0 h4
                go_wp2_with (fail)
                go_meet
                exact ⟨fun h => absurd H4c.out h, fun _ => ⟨_, _, _, HA4.out.1, HA4.out.2⟩⟩
              · have t4 : ((vcpU : Int) == 4) = false := by rw [beq_eq_false_iff_ne]; omega
                have H4c := Lib.hid h4
                clear HA4 hlo h4
                go_wp2_with (fail)
                go_meet
                exact ⟨fun _ => HA0.out, fun h => absurd h H4c.out⟩
            case rest =>
            rename World => w9
            have hPw : P13 W3 w9 Sa Sb ka kb n g (k : Int) (m : Int) B R R xb X := by
              by_cases h4 : vcpU = 4
              · obtain ⟨_, _, _, h, _⟩ := hcut.2 h4; exact h
              · exact (hcut.1 h4).1
            have e3 := hS3.out _ _ _ _ _ hPw
            have e1 := hS1.out _ _ _ _ _ hPw
            have HC := Lib.hid hcut
            clear HA0 HA4 hlo cs0 cs1 fs0 fs1 hPw hcut
            go_wp2_with (fail)
            refine (cpU.out _).mono ?_
            rintro e wp1 ⟨rfl, rfl⟩
            clear e3
            go_upto_if 110 with (fail)
            go_cut [] from 99 to 121 (fun wx => ∃ dv dn dc D', P13 W3 wx Sa Sb ka kb n g (k : Int) (m : Int) B R R xb X ∧ SBy wx Sa Sb b17 x.n (.slice dv dn dc) D')
            case first =>
              by_cases h5 : vcpU = 5
              · have t5 : ((vcpU : Int) == 5) = true := by rw [h5]; rfl
                obtain ⟨hP9, hSB⟩ := HC.out.1 (by omega)
                obtain ⟨cs0, cs1, fs0, fs1⟩ := (hSB.y ⟨HDZ.out.1, HDZ.out.2.1⟩).cells
                have hk14 := HK14.out
                obtain ⟨cb0, fb0⟩ := hSB.first hk14.1 HDL.out
                have HA5 : Hid (∀ s : ByteArray, s.size ≤ 120 → P13 W3 ((w9.drew).setCell ⟨bd, 0, none⟩ (.string s)) Sa Sb ka kb n g (k : Int) (m : Int) B R R xb X ∧ SBy ((w9.drew).setCell ⟨bd, 0, none⟩ (.string s)) Sa Sb b17 x.n (.slice (some ⟨bd, 0, none⟩) k c17) (D.set 0 s)) := Lib.hid fun s hs => by
                  have hPz := hP9.after (Below.drewZ w9)
                  have hSz : SBx w9.drew Sa Sb b17 bd k c17 x.n D := ⟨hSB.s, hSB.o.after (Below.drewZ w9), hSB.na, hSB.ne⟩
                  exact ⟨hPz.put HNE.out.1 HNE.out.2.1 HNE.out.2.2 hSB.na.2.2.1 hSB.na.2.2.2 0 _, hSz.cut ⟨HDZ.out.1, HDZ.out.2.1⟩ s hs⟩
                clear hP9 hSB HC h5 hk14
                go_upto_region 21 with (fail)
                have hD0 := HDZ.out.2.2
                have hk14 := HK14.out
                have HSJ : Hid (((D.getD 0 ⟨#[]⟩).extract 0 vcpC).size ≤ 120) := Lib.hid (by simp only [ByteArray.size_extract]; omega)
                have HSS : Hid (((w9.drew).setCell ⟨bd, 0, none⟩ (.string ((D.getD 0 ⟨#[]⟩).extract 0 vcpC))).cell? ⟨b17, 1, none⟩ = some (.slice (some ⟨bd, 0, none⟩) k c17) ∧ ((w9.drew).setCell ⟨bd, 0, none⟩ (.string ((D.getD 0 ⟨#[]⟩).extract 0 vcpC))).cell? ⟨xb, 1, none⟩ = some (.int .i64 x.sl)) := Lib.hid ⟨(HA5.out _ HSJ.out).2.cells.2.1, hS1.out _ _ _ _ _ (HA5.out _ HSJ.out).1⟩
                refine wp_region_held_drew (S := fun V => V.cell? ⟨b17, 1, none⟩ = some (.slice (some ⟨bd, 0, none⟩) k c17) ∧ V.cell? ⟨xb, 1, none⟩ = some (.int .i64 x.sl)) (by kernel_rfl) ⟨cs1, e1⟩ (fun hHeld => ?_)
                refine wpAnyH_takeD (i := 0) (v := .pointer (some ⟨b17, 1, none⟩)) (some 111) rfl (by kernel_rfl) (by kernel_rfl) (by kernel_rfl) rfl (fun _ _ _ h => h) (Or.inl ⟨by rfl, by rintro w ⟨hs1, hs2⟩; first | rfl | (go_simp; done) | (go_simp; rfl)⟩) (by assumption) ?_
                simp only [Act.put, List.setIfInBounds_toArray, List.set_cons_zero, List.set_cons_succ]
                refine wpAnyH_takeD (i := 1) (v := .slice (some ⟨bd, 0, none⟩) k c17) (some 112) rfl (by kernel_rfl) (by kernel_rfl) (by kernel_rfl) rfl (fun _ _ _ h => h) (yieldsIf_load_run (by rfl) _ rfl rfl (fun _ hs => cell_load (fun W => by kernel_rfl) hs.1)) (by assumption) ?_
                simp only [Act.put, List.setIfInBounds_toArray, List.set_cons_zero, List.set_cons_succ]
                refine wpAnyH_takeD (i := 2) (v := .pointer (some ⟨b17, 1, none⟩)) (some 113) rfl (by kernel_rfl) (by kernel_rfl) (by kernel_rfl) rfl (fun _ _ _ h => h) (Or.inl ⟨by rfl, by rintro w ⟨hs1, hs2⟩; first | rfl | (go_simp; done) | (go_simp; rfl)⟩) (by assumption) ?_
                simp only [Act.put, List.setIfInBounds_toArray, List.set_cons_zero, List.set_cons_succ]
                refine wpAnyH_takeD (i := 3) (v := .slice (some ⟨bd, 0, none⟩) k c17) (some 114) rfl (by kernel_rfl) (by kernel_rfl) (by kernel_rfl) rfl (fun _ _ _ h => h) (yieldsIf_load_run (by rfl) _ rfl rfl (fun _ hs => cell_load (fun W => by kernel_rfl) hs.1)) (by assumption) ?_
                simp only [Act.put, List.setIfInBounds_toArray, List.set_cons_zero, List.set_cons_succ]
                refine wpAnyH_takeD (i := 4) (v := .pointer (some ⟨bd, 0, none⟩)) (some 115) rfl (by kernel_rfl) (by kernel_rfl) (by kernel_rfl) rfl (fun _ _ _ h => h) (yieldsIf_index_run (by rfl) _ _ rfl rfl rfl (fun W => slc_at0 Tryz.underlying39 (fun W => by kernel_rfl) bd k c17 0 (by omega) W)) (by assumption) ?_
                simp only [Act.put, List.setIfInBounds_toArray, List.set_cons_zero, List.set_cons_succ]
                refine wpAnyH_takeD (i := 6) (v := .pointer (some ⟨xb, 1, none⟩)) (some 117) rfl (by kernel_rfl) (by kernel_rfl) (by kernel_rfl) rfl (fun _ _ _ h => h) (Or.inl ⟨by rfl, by rintro w ⟨hs1, hs2⟩; first | rfl | (go_simp; done) | (go_simp; rfl)⟩) (by assumption) ?_
                simp only [Act.put, List.setIfInBounds_toArray, List.set_cons_zero, List.set_cons_succ]
                refine wpAnyH_takeD (i := 7) (v := .int .i64 x.sl) (some 118) rfl (by kernel_rfl) (by kernel_rfl) (by kernel_rfl) rfl (fun _ _ _ h => h) (yieldsIf_load_run (by rfl) _ rfl rfl (fun _ hs => cell_load (fun W => by kernel_rfl) hs.2)) (by assumption) ?_
                simp only [Act.put, List.setIfInBounds_toArray, List.set_cons_zero, List.set_cons_succ]
                refine wpAnyH_ready (rs := [5, 8]) (by kernel_rfl) (by simp) ?_
                refine AllReadyH.cons rfl (fun K hK => ?_) (AllReadyH.cons rfl (fun K hK => ?_) AllReadyH.nil)
                · refine step_load_run (d := some 116) (cell_load (W := w9.drew) (fun W => by kernel_rfl) cb0) _ rfl rfl rfl rfl ?_
                  refine hK.out _ _ ⟨cs1, e1⟩ (fun hHeld => ?_)
                  clear hK
                  try simp only [Act.put, List.setIfInBounds_toArray, List.set_cons_zero, List.set_cons_succ]
                  refine wpAnyH_ready (rs := [8]) (by kernel_rfl) (by simp) ?_
                  refine AllReadyH.cons rfl (fun K hK => ?_) AllReadyH.nil
                  go_simp
                  refine (cpC.out _).mono ?_
                  rintro e wp1 ⟨rfl, rfl⟩
                  refine hK.out _ _ ⟨cs1, e1⟩ (fun hHeld => ?_)
                  clear hK
                  try simp only [Act.put, List.setIfInBounds_toArray, List.set_cons_zero, List.set_cons_succ]
                  refine wpAnyH_takeD (i := 9) (v := .string ((D.getD 0 ⟨#[]⟩).extract 0 vcpC)) (some 120) rfl (by kernel_rfl) (by kernel_rfl) (by kernel_rfl) rfl (fun _ _ _ h => h) (yieldsIf_hi_run (by rfl) _ _ rfl rfl rfl (fun W => str_hi_at (D.getD 0 ⟨#[]⟩) vcpC (by omega) W)) (by assumption) ?_
                  simp only [Act.put, List.setIfInBounds_toArray, List.set_cons_zero, List.set_cons_succ]
                  refine wpAnyH_takeD (i := 10) (v := .pointer (some ⟨bd, 0, none⟩)) (some 121) rfl (by kernel_rfl) (by kernel_rfl) (by kernel_rfl) rfl (fun _ _ _ h => h) (yieldsIf_index_run (by rfl) _ _ rfl rfl rfl (fun W => slc_at0 Tryz.underlying39 (fun W => by kernel_rfl) bd k c17 0 (by omega) W)) (by assumption) ?_
                  simp only [Act.put, List.setIfInBounds_toArray, List.set_cons_zero, List.set_cons_succ]
                  refine wpAnyH_ready (rs := [11]) (by kernel_rfl) (by simp) ?_
                  refine AllReadyH.cons rfl (fun K hK => ?_) AllReadyH.nil
                  refine step_store_run (d := none) (str_store (W := w9.drew) ⟨_, rfl⟩ cb0 fb0) _ _ rfl rfl rfl rfl rfl ?_
                  refine hK.out _ _ HSS.out (fun hHeld => ?_)
                  clear hK
                  try simp only [Act.put, List.setIfInBounds_toArray, List.set_cons_zero, List.set_cons_succ]
                  refine wpAnyH_done (by kernel_rfl) ?_ _
                  clear hHeld
                  go_wp2_with (fail)
                  go_meet
                  exact ⟨_, _, _, _, (HA5.out _ HSJ.out).1, (HA5.out _ HSJ.out).2⟩
                · go_simp
                  refine (cpC.out _).mono ?_
                  rintro e wp1 ⟨rfl, rfl⟩
                  refine hK.out _ _ ⟨cs1, e1⟩ (fun hHeld => ?_)
                  clear hK
                  try simp only [Act.put, List.setIfInBounds_toArray, List.set_cons_zero, List.set_cons_succ]
                  refine wpAnyH_ready (rs := [5]) (by kernel_rfl) (by simp) ?_
                  refine AllReadyH.cons rfl (fun K hK => ?_) AllReadyH.nil
                  refine step_load_run (d := some 116) (cell_load (W := w9.drew) (fun W => by kernel_rfl) cb0) _ rfl rfl rfl rfl ?_
                  refine hK.out _ _ ⟨cs1, e1⟩ (fun hHeld => ?_)
                  clear hK
                  try simp only [Act.put, List.setIfInBounds_toArray, List.set_cons_zero, List.set_cons_succ]
                  refine wpAnyH_takeD (i := 9) (v := .string ((D.getD 0 ⟨#[]⟩).extract 0 vcpC)) (some 120) rfl (by kernel_rfl) (by kernel_rfl) (by kernel_rfl) rfl (fun _ _ _ h => h) (yieldsIf_hi_run (by rfl) _ _ rfl rfl rfl (fun W => str_hi_at (D.getD 0 ⟨#[]⟩) vcpC (by omega) W)) (by assumption) ?_
                  simp only [Act.put, List.setIfInBounds_toArray, List.set_cons_zero, List.set_cons_succ]
                  refine wpAnyH_takeD (i := 10) (v := .pointer (some ⟨bd, 0, none⟩)) (some 121) rfl (by kernel_rfl) (by kernel_rfl) (by kernel_rfl) rfl (fun _ _ _ h => h) (yieldsIf_index_run (by rfl) _ _ rfl rfl rfl (fun W => slc_at0 Tryz.underlying39 (fun W => by kernel_rfl) bd k c17 0 (by omega) W)) (by assumption) ?_
                  simp only [Act.put, List.setIfInBounds_toArray, List.set_cons_zero, List.set_cons_succ]
                  refine wpAnyH_ready (rs := [11]) (by kernel_rfl) (by simp) ?_
                  refine AllReadyH.cons rfl (fun K hK => ?_) AllReadyH.nil
                  refine step_store_run (d := none) (str_store (W := w9.drew) ⟨_, rfl⟩ cb0 fb0) _ _ rfl rfl rfl rfl rfl ?_
                  refine hK.out _ _ HSS.out (fun hHeld => ?_)
                  clear hK
                  try simp only [Act.put, List.setIfInBounds_toArray, List.set_cons_zero, List.set_cons_succ]
                  refine wpAnyH_done (by kernel_rfl) ?_ _
                  clear hHeld
                  go_wp2_with (fail)
                  go_meet
                  exact ⟨_, _, _, _, (HA5.out _ HSJ.out).1, (HA5.out _ HSJ.out).2⟩
              · have t5 : ((vcpU : Int) == 5) = false := by rw [beq_eq_false_iff_ne]; omega
                have HF : Hid (∃ dv dn dc D', P13 W3 w9 Sa Sb ka kb n g (k : Int) (m : Int) B R R xb X ∧ SBy w9 Sa Sb b17 x.n (.slice dv dn dc) D') := Lib.hid (by
                  by_cases h4 : vcpU = 4
                  · obtain ⟨a, b, c, h, h2⟩ := HC.out.2 h4; exact ⟨a, b, c, _, h, h2⟩
                  · exact ⟨_, _, _, _, (HC.out.1 h4).1, (HC.out.1 h4).2.y ⟨HDZ.out.1, HDZ.out.2.1⟩⟩)
                clear HC e1 cpC h5
                go_wp2_with (fail)
                go_meet
                exact HF.out
            case rest =>
            obtain ⟨dv, dn, dc, D', hP9, hY⟩ := hcut
            rename World => w9'
            clear HC e1 cpU cpC
            obtain ⟨X1, hX1⟩ : ∃ X1, stW n R id0 (k : Int) (m : Int) B (x.ls.take q) x.n D' = X1 := ⟨_, rfl⟩
            have hro1 := stW_ok (K := (k : Int)) (M := (m : Int)) (B := B) (id := id0) (N := x.n) (l := x.ls.take q) (data := D') HRO.out
            rw [hX1] at hro1
            have hlen : Hid (X1.2.1.length ≤ 140737488355328) := Lib.hid (by rw [← hX1]; have h1 := stW_len (n := n) (R := R) (id := id0) (K := (k : Int)) (M := (m : Int)) (B := B) (N := x.n) (l := x.ls.take q) (data := D'); have h2 := HSN.out.1; omega)
            have cA := stw_any hP9.sw.ra hP9.sw.tb (20 * i) HRO.out id0 (k : Int) (m : Int) B x.n (.slice sa q sc) (.slice dv dn dc) (x.ls.take q) D' (HSW.out _ _ _ _ _ hP9) (show capOk (.slice sa q sc) from HSN.out.2) (HSB.out _ hP9.from.1) (by have := HSN.out.1; omega) (by have := HSN.out.1; omega) hY.r hY.fits (by have := hY.z.1; omega)
            rw [hX1] at cA
            have P9 := Lib.hid hP9
            have Y9 := Lib.hid hY
            obtain ⟨c0, c1, c2⟩ := hP9.sw.cells
            obtain ⟨d0, d1, _, _⟩ := hY.cells
            clear hP9 hY
            go_wp2_with (fail)
            clear c0 c1 c2 d0 d1
            refine cA.mono ?_
            rintro e w5 ⟨v5, rfl, S5, s5, a5, o5, n5⟩
            have p5 := P9.out.stpA s5 a5
            have y5 := Y9.out.stpA s5
            have cQ := kstw_any p5.q (20 * i) HRO.out id0 (k : Int) (m : Int) B x.n (.slice sa q sc) (.slice dv dn dc) (x.ls.take q) D' (HSW.out _ _ _ _ _ p5) (HSB.out _ p5.from.2) (by have := HSN.out.1; omega) (by have := HSN.out.1; omega) y5.r y5.fits (by have := y5.z.1; omega)
            rw [hX1] at cQ
            obtain ⟨xa, xc, hf5⟩ := o5.reads.form
            rw [List.length_map] at hf5
            subst hf5
            have O5 := Lib.hid (And.intro o5 n5)
            have P5 := Lib.hid p5
            have HL5 := Lib.hid P9.out.lt.2
            obtain ⟨c0, c1, c2⟩ := p5.sw.cells
            obtain ⟨d0, d1, _, _⟩ := y5.cells
            clear cA s5 a5 o5 n5 hX1 p5 y5 P9 Y9
            go_wp2_with (fail)
            clear c0 c1 c2 d0 d1
            refine cQ.mono ?_
            rintro e w6 ⟨v6, rfl, S6, s6, a6, o6, n6⟩
            have p6 := P5.out.stpQ s6 a6
            obtain ⟨ya, yc, hf6⟩ := o6.reads.form
            rw [List.length_map] at hf6
            subst hf6
            have hr5 : Reads w6 (.slice xa X1.2.1.length xc) (X1.2.1.map (.int .i64)) := O5.out.1.reads.stp s6 fun z hz hs => by
              have h1 := (O5.out.1.o.lt z hz)
              have h3 := HL5.out z hs
              omega
            have cI := ints8_any (.slice xa X1.2.1.length xc) (.slice ya X1.2.1.length yc) X1.2.1 X1.2.1 w6 hr5 o6.reads hlen.out hlen.out
            rw [decide_eq_true rfl] at cI
            have P6 := Lib.hid p6
            have te : (X1.2.2 != X1.2.2) = false := bne_self_eq_false _
            clear cQ s6 a6 o6 n6 hr5 p6 P5 O5 hlen
            go_wp2_with (fail)
            refine cI.mono ?_
            rintro e w7 ⟨rfl, b7, -⟩
            have P7 := Lib.hid (P6.out.after b7)
            clear cI P6 b7
            go_wp2_with (fail)
            go_meet
            exact ⟨_, _, _, P7.out, hro1.le (by have := HSN.out.1; omega)⟩
          · as_aux_lemma =>
            have HRO1 : ROk n R 1000000000000 := HRO.out.le (by omega)
            have hP := HPB.out
            obtain ⟨X1, hX1⟩ : ∃ X1, stF n R (x.ls.take q) = X1 := ⟨_, rfl⟩
            have hro1 := stF_ok (l := x.ls.take q) HRO.out
            rw [hX1] at hro1
            have hlen : Hid (X1.2.1.length ≤ 140737488355328) := Lib.hid (by rw [← hX1]; have h1 := stF_len (n := n) (R := R) (l := x.ls.take q); have h2 := HSN.out.1; omega)
            have cA := stf_any hP.sw.ra (20 * i) HRO.out (.slice sa q sc) (x.ls.take q) (HSW.out _ _ _ _ _ hP) (show capOk (.slice sa q sc) from HSN.out.2) (HSB.out _ hP.from.1) (by have := HSN.out.1; omega) (by have := HSN.out.1; omega)
            rw [hX1] at cA
            go_wp2_with (fail)
            refine cA.mono ?_
            rintro e w5 ⟨v5, rfl, S5, s5, a5, o5, n5⟩
            have p5 := hP.stpA s5 a5
            have cQ := kstf_any p5.q (20 * i) HRO.out (.slice sa q sc) (x.ls.take q) (HSW.out _ _ _ _ _ p5) (HSB.out _ p5.from.2) (by have := HSN.out.1; omega) (by have := HSN.out.1; omega)
            rw [hX1] at cQ
            obtain ⟨xa, xc, hf5⟩ := o5.reads.form
            rw [List.length_map] at hf5
            subst hf5
            have O5 := Lib.hid (And.intro o5 n5)
            have P5 := Lib.hid p5
            clear cA s5 a5 o5 n5 hX1 hP p5
            go_wp2_with (fail)
            refine cQ.mono ?_
            rintro e w6 ⟨v6, rfl, S6, s6, a6, o6, n6⟩
            have p6 := P5.out.stpQ s6 a6
            obtain ⟨ya, yc, hf6⟩ := o6.reads.form
            rw [List.length_map] at hf6
            subst hf6
            have hr5 : Reads w6 (.slice xa X1.2.1.length xc) (X1.2.1.map (.int .i64)) := O5.out.1.reads.stp s6 fun z hz hs => by
              have h1 := (O5.out.1.o.lt z hz)
              have h3 := HPB.out.lt.2 z hs
              omega
            have cI := ints8_any (.slice xa X1.2.1.length xc) (.slice ya X1.2.1.length yc) X1.2.1 X1.2.1 w6 hr5 o6.reads hlen.out hlen.out
            rw [decide_eq_true rfl] at cI
            have P6 := Lib.hid p6
            have te : (X1.2.2 != X1.2.2) = false := bne_self_eq_false _
            clear cQ s6 a6 o6 n6 hr5 p6 P5 O5 hlen
            go_wp2_with (fail)
            refine cI.mono ?_
            rintro e w7 ⟨rfl, b7, -⟩
            have P7 := Lib.hid (P6.out.after b7)
            clear cI P6 b7
            go_wp2_with (fail)
            go_meet
            exact ⟨_, _, _, P7.out, hro1.le (by have := HSN.out.1; omega)⟩
          · as_aux_lemma =>
            obtain ⟨vcpA, hvcpA⟩ := Int.eq_ofNat_of_zero_le (pk_rng x.at_ 30 (by omega)).1
            have hrcpA : vcpA < 30 := by have := (pk_rng x.at_ 30 (by omega)).2; omega
            have cpA : Hid (∀ W, Calls Tryz.prog 8 #[.int .i64 x.at_, .int .i64 30] W fun e w' => e = .returned (.int .i64 (vcpA : Int)) ∧ W = w') := Lib.hid fun W => by rw [← hvcpA]; exact pick13_any x.at_ 30 W (in64_iff.1 (by assumption)).1 (in64_iff.1 (by assumption)).2 (by omega) (by omega)
            clear hvcpA
            have HRO1 : ROk n R 1000000000000 := HRO.out.le (by omega)
            have hP := HPB.out
            have e3 := hS3.out _ _ _ _ _ hP
            go_wp2_with (fail)
            refine (cpA.out _).mono ?_
            rintro e wp1 ⟨rfl, rfl⟩
            go_wp2_with (fail)
            refine (rt_arm hP.sw.ra (vcpA : Int)).mono ?_
            rintro e w5 ⟨rfl, S5, s5, a5⟩
            have p5 := hP.stpA s5 a5
            clear e3
            have e3 := hS3.out _ _ _ _ _ p5
            go_wp2_with (fail)
            refine (cpA.out _).mono ?_
            rintro e wp2 ⟨rfl, rfl⟩
            go_wp2_with (fail)
            refine (kt_arm p5.q (vcpA : Int) HRO1).mono ?_
            rintro e w6 ⟨rfl, S6, s6, a6⟩
            have p6 := Lib.hid (p5.stpQ s6 a6)
            clear e3
            clear p5 s5 a5 s6 a6 hP HRO1
            go_wp2_with (fail)
            go_meet
            exact ⟨_, _, _, p6.out, (HRO.out.ar _).le (by omega)⟩
          · as_aux_lemma =>
            have HRO1 : ROk n R 1000000000000 := HRO.out.le (by omega)
            have hP := HPB.out
            have e6 := hS6.out _ _ _ _ _ hP
            go_wp2_with (fail)
            refine (rt_restart hP.sw.ra _ x.lc (HCW.out _ _ _ _ _ hP) (HCA.out _ hP.from.1) HIN.out.2.2 HRO1).mono ?_
            rintro e w5 ⟨rfl, S5, s5, a5⟩
            have p5 := hP.stpA s5 a5
            clear e6
            have e6 := hS6.out _ _ _ _ _ p5
            go_wp2_with (fail)
            refine (kt_restart p5.q _ x.lc (HCW.out _ _ _ _ _ p5) (HCA.out _ p5.from.2) HIN.out.2.2 HRO1).mono ?_
            rintro e w6 ⟨rfl, S6, s6, a6⟩
            have p6 := Lib.hid (p5.stpQ s6 a6)
            clear e6
            clear p5 s5 a5 s6 a6 hP HRO1
            go_wp2_with (fail)
            go_meet
            exact ⟨_, _, _, p6.out, (rok_re13 HRO.out _).le (by omega)⟩
          · as_aux_lemma =>
            have HRO1 : ROk n R 1000000000000 := HRO.out.le (by omega)
            have hP := HPB.out
            have e6 := hS6.out _ _ _ _ _ hP
            go_wp2_with (fail)
            refine (rt_restart hP.sw.ra _ x.lc (HCW.out _ _ _ _ _ hP) (HCA.out _ hP.from.1) HIN.out.2.2 HRO1).mono ?_
            rintro e w5 ⟨rfl, S5, s5, a5⟩
            have p5 := hP.stpA s5 a5
            clear e6
            have e6 := hS6.out _ _ _ _ _ p5
            go_wp2_with (fail)
            refine (kt_restart p5.q _ x.lc (HCW.out _ _ _ _ _ p5) (HCA.out _ p5.from.2) HIN.out.2.2 HRO1).mono ?_
            rintro e w6 ⟨rfl, S6, s6, a6⟩
            have p6 := Lib.hid (p5.stpQ s6 a6)
            clear e6
            clear p5 s5 a5 s6 a6 hP HRO1
            go_wp2_with (fail)
            go_meet
            exact ⟨_, _, _, p6.out, (rok_re13 HRO.out _).le (by omega)⟩
          · as_aux_lemma =>
            obtain ⟨vcpN, hvcpN⟩ := Int.eq_ofNat_of_zero_le (pk_rng x.sl ((k : Int) + (m : Int)) (by omega)).1
            have hrcpN : vcpN < ((k : Int) + (m : Int)) := by have := (pk_rng x.sl ((k : Int) + (m : Int)) (by omega)).2; omega
            have cpN : Hid (∀ W, Calls Tryz.prog 8 #[.int .i64 x.sl, .int .i64 ((k : Int) + (m : Int))] W fun e w' => e = .returned (.int .i64 (vcpN : Int)) ∧ W = w') := Lib.hid fun W => by rw [← hvcpN]; exact pick13_any x.sl ((k : Int) + (m : Int)) W (in64_iff.1 (by assumption)).1 (in64_iff.1 (by assumption)).2 (by omega) (by omega)
            clear hvcpN
            have HRO1 : ROk n R 1000000000000 := HRO.out.le (by omega)
            have hP := HPB.out
            have e1 := hS1.out _ _ _ _ _ hP
            go_wp2_with (fail)
            refine (cpN.out _).mono ?_
            rintro e wp1 ⟨rfl, rfl⟩
            go_wp2_with (fail)
            refine (rt_fail hP.sw.ra (vcpN : Int)).mono ?_
            rintro e w5 ⟨rfl, S5, s5, a5⟩
            have p5 := hP.stpA s5 a5
            clear e1
            have e1 := hS1.out _ _ _ _ _ p5
            go_wp2_with (fail)
            refine (cpN.out _).mono ?_
            rintro e wp2 ⟨rfl, rfl⟩
            go_wp2_with (fail)
            refine (kt_fail p5.q (vcpN : Int)).mono ?_
            rintro e w6 ⟨rfl, S6, s6, a6⟩
            have p6 := Lib.hid (p5.stpQ s6 a6)
            clear e1
            clear p5 s5 a5 s6 a6 hP HRO1
            go_wp2_with (fail)
            go_meet
            exact ⟨_, _, _, p6.out, (HRO.out.up _ faM (fun M h => vn_fa)).le (by omega)⟩
          · as_aux_lemma =>
            obtain ⟨vcpN, hvcpN⟩ := Int.eq_ofNat_of_zero_le (pk_rng x.sl ((k : Int) + (m : Int)) (by omega)).1
            have hrcpN : vcpN < ((k : Int) + (m : Int)) := by have := (pk_rng x.sl ((k : Int) + (m : Int)) (by omega)).2; omega
            have cpN : Hid (∀ W, Calls Tryz.prog 8 #[.int .i64 x.sl, .int .i64 ((k : Int) + (m : Int))] W fun e w' => e = .returned (.int .i64 (vcpN : Int)) ∧ W = w') := Lib.hid fun W => by rw [← hvcpN]; exact pick13_any x.sl ((k : Int) + (m : Int)) W (in64_iff.1 (by assumption)).1 (in64_iff.1 (by assumption)).2 (by omega) (by omega)
            clear hvcpN
            have HRO1 : ROk n R 1000000000000 := HRO.out.le (by omega)
            have hP := HPB.out
            have e1 := hS1.out _ _ _ _ _ hP
            go_wp2_with (fail)
            refine (cpN.out _).mono ?_
            rintro e wp1 ⟨rfl, rfl⟩
            go_wp2_with (fail)
            refine (rt_blank hP.sw.ra (vcpN : Int)).mono ?_
            rintro e w5 ⟨rfl, S5, s5, a5⟩
            have p5 := hP.stpA s5 a5
            clear e1
            have e1 := hS1.out _ _ _ _ _ p5
            go_wp2_with (fail)
            refine (cpN.out _).mono ?_
            rintro e wp2 ⟨rfl, rfl⟩
            go_wp2_with (fail)
            refine (kt_blank p5.q (vcpN : Int)).mono ?_
            rintro e w6 ⟨rfl, S6, s6, a6⟩
            have p6 := Lib.hid (p5.stpQ s6 a6)
            clear e1
            clear p5 s5 a5 s6 a6 hP HRO1
            go_wp2_with (fail)
            go_meet
            exact ⟨_, _, _, p6.out, (HRO.out.up _ blM (fun M h => vn_bl)).le (by omega)⟩
          · as_aux_lemma =>
            obtain ⟨vcpN, hvcpN⟩ := Int.eq_ofNat_of_zero_le (pk_rng x.sl ((k : Int) + (m : Int)) (by omega)).1
            have hrcpN : vcpN < ((k : Int) + (m : Int)) := by have := (pk_rng x.sl ((k : Int) + (m : Int)) (by omega)).2; omega
            have cpN : Hid (∀ W, Calls Tryz.prog 8 #[.int .i64 x.sl, .int .i64 ((k : Int) + (m : Int))] W fun e w' => e = .returned (.int .i64 (vcpN : Int)) ∧ W = w') := Lib.hid fun W => by rw [← hvcpN]; exact pick13_any x.sl ((k : Int) + (m : Int)) W (in64_iff.1 (by assumption)).1 (in64_iff.1 (by assumption)).2 (by omega) (by omega)
            clear hvcpN
            obtain ⟨vcpJ, hvcpJ⟩ := Int.eq_ofNat_of_zero_le (pk_rng x.at_ 128 (by omega)).1
            have hrcpJ : vcpJ < 128 := by have := (pk_rng x.at_ 128 (by omega)).2; omega
            have cpJ : Hid (∀ W, Calls Tryz.prog 8 #[.int .i64 x.at_, .int .i64 128] W fun e w' => e = .returned (.int .i64 (vcpJ : Int)) ∧ W = w') := Lib.hid fun W => by rw [← hvcpJ]; exact pick13_any x.at_ 128 W (in64_iff.1 (by assumption)).1 (in64_iff.1 (by assumption)).2 (by omega) (by omega)
            clear hvcpJ
            obtain ⟨vcpB, hvcpB⟩ := Int.eq_ofNat_of_zero_le (pk_rng x.at_ 255 (by omega)).1
            have hrcpB : vcpB < 255 := by have := (pk_rng x.at_ 255 (by omega)).2; omega
            have cpB : Hid (∀ W, Calls Tryz.prog 8 #[.int .i64 x.at_, .int .i64 255] W fun e w' => e = .returned (.int .i64 (vcpB : Int)) ∧ W = w') := Lib.hid fun W => by rw [← hvcpB]; exact pick13_any x.at_ 255 W (in64_iff.1 (by assumption)).1 (in64_iff.1 (by assumption)).2 (by omega) (by omega)
            clear hvcpB
            obtain ⟨NN, hNN⟩ : ∃ NN, pk x.n T = NN := ⟨_, rfl⟩
            have hTr := HTR.out
            have hNr : 0 ≤ NN ∧ NN < T := by rw [← hNN]; exact pk_rng _ _ (by omega)
            have cpM : Hid (∀ W, Calls Tryz.prog 8 #[.int .i64 x.n, .int .i64 T] W fun e w' => e = .returned (.int .i64 NN) ∧ W = w') := Lib.hid fun W => by rw [← hNN]; exact pick13_any x.n T W (in64_iff.1 i2).1 (in64_iff.1 i2).2 (by omega) (by omega)
            obtain ⟨sa_, hsa, hsa255⟩ := hSecI.out NN hNr.1 hNr.2
            have cSe : Hid (∀ W, Calls Tryz.prog 22 #[.agg #[.int .i64 (k : Int), .int .i64 (m : Int), .int .i64 B], .int .i64 NN] W fun e w' => e = .returned (.int .i64 (sa_ : Int)) ∧ Below W.heap.size W w') := Lib.hid fun W => by rw [← hsa]; exact rsector_any _ _ _ _ _
            have hsI : In64 (sa_ : Int) := in64_iff.2 (by omega)
            have hsum : ∀ W : World, (binOp .add 3 (.int .i64 1) (.int .i64 (vcpB : Int))).run Tryz.prog W = .ok (.int .i64 (1 + (vcpB : Int))) W := fun W => sum_left vcpB (by omega) W
            clear hNN hNr hTr hsa hsa255
            have HRO1 : ROk n R 1000000000000 := HRO.out.le (by omega)
            have hP := HPB.out
            have HSX : Hid (∀ V Sa Sb Ra Rq, P13 W3 V Sa Sb ka kb n g (k : Int) (m : Int) B Ra Rq xb X → (fun V => V.heap[g]? = some (.cells #[.int .i64 (k : Int), .int .i64 (m : Int), .int .i64 B] 23 (0, 0)) ∧ V.cell? ⟨xb, 1, none⟩ = some (.int .i64 x.sl) ∧ V.cell? ⟨xb, 2, none⟩ = some (.int .i64 x.n) ∧ V.cell? ⟨xb, 3, none⟩ = some (.int .i64 x.at_)) V) := Lib.hid fun V _ _ _ _ h => ⟨h.sw.gb, hS1.out _ _ _ _ _ h, hS2.out _ _ _ _ _ h, hS3.out _ _ _ _ _ h⟩
            go_upto_region 46 with (fail)
            refine wp_region_held_drew (S := fun V => V.heap[g]? = some (.cells #[.int .i64 (k : Int), .int .i64 (m : Int), .int .i64 B] 23 (0, 0)) ∧ V.cell? ⟨xb, 1, none⟩ = some (.int .i64 x.sl) ∧ V.cell? ⟨xb, 2, none⟩ = some (.int .i64 x.n) ∧ V.cell? ⟨xb, 3, none⟩ = some (.int .i64 x.at_)) (by kernel_rfl) (HSX.out _ _ _ _ _ (hP.after (Below.drewZ wb))) (fun hHeld => ?_)
            refine wpAnyH_takeD (i := 0) (v := .agg #[.int .i64 (k : Int), .int .i64 (m : Int), .int .i64 B]) (some 226) rfl (by kernel_rfl) (by kernel_rfl) (by kernel_rfl) rfl (fun _ _ _ h => h) (yieldsIf_load_run (by rfl) _ rfl rfl (fun _ hs => geo_load hs.1)) (by assumption) ?_
            simp only [Act.put, List.setIfInBounds_toArray, List.set_cons_zero, List.set_cons_succ]
            refine wpAnyH_takeD (i := 1) (v := .pointer (some ⟨xb, 2, none⟩)) (some 227) rfl (by kernel_rfl) (by kernel_rfl) (by kernel_rfl) rfl (fun _ _ _ h => h) (Or.inl ⟨by rfl, by rintro w ⟨hs1, hs2, hs3, hs4⟩; first | rfl | (go_simp; done) | (go_simp; rfl)⟩) (by assumption) ?_
            simp only [Act.put, List.setIfInBounds_toArray, List.set_cons_zero, List.set_cons_succ]
            refine wpAnyH_takeD (i := 2) (v := .int .i64 x.n) (some 228) rfl (by kernel_rfl) (by kernel_rfl) (by kernel_rfl) rfl (fun _ _ _ h => h) (yieldsIf_load_run (by rfl) _ rfl rfl (fun _ hs => cell_load (fun W => by kernel_rfl) hs.2.2.1)) (by assumption) ?_
            simp only [Act.put, List.setIfInBounds_toArray, List.set_cons_zero, List.set_cons_succ]
            refine wpAnyH_takeD (i := 3) (v := .agg #[.int .i64 (k : Int), .int .i64 (m : Int), .int .i64 B]) (some 229) rfl (by kernel_rfl) (by kernel_rfl) (by kernel_rfl) rfl (fun _ _ _ h => h) (yieldsIf_load_run (by rfl) _ rfl rfl (fun _ hs => geo_load hs.1)) (by assumption) ?_
            simp only [Act.put, List.setIfInBounds_toArray, List.set_cons_zero, List.set_cons_succ]
            refine wpAnyH_ready (rs := [4]) (by kernel_rfl) (by simp) ?_
            refine AllReadyH.cons rfl (fun K hK => ?_) AllReadyH.nil
            go_simp
            refine (CT.out wb.drew).mono ?_
            rintro e wc ⟨rfl, bc0⟩
            have pc := (hP.after (Below.drewZ wb)).after bc0
            refine hK.out _ _ (HSX.out _ _ _ _ _ pc) (fun hHeld => ?_)
            clear hK
            try simp only [Act.put, List.setIfInBounds_toArray, List.set_cons_zero, List.set_cons_succ]
            refine wpAnyH_ready (rs := [5]) (by kernel_rfl) (by simp) ?_
            refine AllReadyH.cons rfl (fun K hK => ?_) AllReadyH.nil
            go_simp
            refine (cpM.out wc).mono ?_
            rintro e wc' ⟨rfl, rfl⟩
            refine hK.out _ _ (HSX.out _ _ _ _ _ pc) (fun hHeld => ?_)
            clear hK
            try simp only [Act.put, List.setIfInBounds_toArray, List.set_cons_zero, List.set_cons_succ]
            refine wpAnyH_ready (rs := [6]) (by kernel_rfl) (by simp) ?_
            refine AllReadyH.cons rfl (fun K hK => ?_) AllReadyH.nil
            go_simp
            refine (cSe.out wc).mono ?_
            rintro e wd ⟨rfl, bd0⟩
            have pd := pc.after bd0
            refine hK.out _ _ (HSX.out _ _ _ _ _ pd) (fun hHeld => ?_)
            clear hK
            try simp only [Act.put, List.setIfInBounds_toArray, List.set_cons_zero, List.set_cons_succ]
            refine wpAnyH_takeD (i := 7) (v := .int .i64 (sa_ : Int)) (some 26) rfl (by kernel_rfl) (by kernel_rfl) (by kernel_rfl) rfl (fun _ _ _ h => h) (Or.inl ⟨by rfl, by rintro w ⟨hs1, hs2, hs3, hs4⟩; first | rfl | (go_simp; done) | (go_simp; rfl)⟩) (by assumption) ?_
            simp only [Act.put, List.setIfInBounds_toArray, List.set_cons_zero, List.set_cons_succ]
            refine wpAnyH_done (by kernel_rfl) ?_ _
            have PD := Lib.hid pd
            clear hHeld pc pd bc0 bd0 hP
            go_upto_region 47 with (fail)
            refine wp_region_held_drew (S := fun V => V.heap[g]? = some (.cells #[.int .i64 (k : Int), .int .i64 (m : Int), .int .i64 B] 23 (0, 0)) ∧ V.cell? ⟨xb, 1, none⟩ = some (.int .i64 x.sl) ∧ V.cell? ⟨xb, 2, none⟩ = some (.int .i64 x.n) ∧ V.cell? ⟨xb, 3, none⟩ = some (.int .i64 x.at_)) (by kernel_rfl) (HSX.out _ _ _ _ _ (PD.out.after (Below.drewZ wd))) (fun hHeld => ?_)
            refine wpAnyH_takeD (i := 0) (some 233) rfl (by kernel_rfl) (by kernel_rfl) (by kernel_rfl) rfl (fun _ _ _ h => h) (Or.inl ⟨by rfl, by rintro w ⟨hs1, hs2, hs3, hs4⟩; first | rfl | (go_simp; done) | (go_simp; rfl)⟩) (by assumption) ?_
            simp only [Act.put, List.setIfInBounds_toArray, List.set_cons_zero, List.set_cons_succ]
            refine wpAnyH_takeD (i := 1) (v := .pointer (some ⟨xb, 1, none⟩)) (some 234) rfl (by kernel_rfl) (by kernel_rfl) (by kernel_rfl) rfl (fun _ _ _ h => h) (Or.inl ⟨by rfl, by rintro w ⟨hs1, hs2, hs3, hs4⟩; first | rfl | (go_simp; done) | (go_simp; rfl)⟩) (by assumption) ?_
            simp only [Act.put, List.setIfInBounds_toArray, List.set_cons_zero, List.set_cons_succ]
            refine wpAnyH_takeD (i := 2) (v := .int .i64 x.sl) (some 235) rfl (by kernel_rfl) (by kernel_rfl) (by kernel_rfl) rfl (fun _ _ _ h => h) (yieldsIf_load_run (by rfl) _ rfl rfl (fun _ hs => cell_load (fun W => by kernel_rfl) hs.2.1)) (by assumption) ?_
            simp only [Act.put, List.setIfInBounds_toArray, List.set_cons_zero, List.set_cons_succ]
            refine wpAnyH_takeD (i := 3) (some 236) rfl (by kernel_rfl) (by kernel_rfl) (by kernel_rfl) rfl (fun _ _ _ h => h) (Or.inl ⟨by rfl, by rintro w ⟨hs1, hs2, hs3, hs4⟩; first | rfl | (go_simp; done) | (go_simp; rfl)⟩) (by assumption) ?_
            simp only [Act.put, List.setIfInBounds_toArray, List.set_cons_zero, List.set_cons_succ]
            refine wpAnyH_takeD (i := 5) (some 238) rfl (by kernel_rfl) (by kernel_rfl) (by kernel_rfl) rfl (fun _ _ _ h => h) (Or.inl ⟨by rfl, by rintro w ⟨hs1, hs2, hs3, hs4⟩; first | rfl | (go_simp; done) | (go_simp; rfl)⟩) (by assumption) ?_
            simp only [Act.put, List.setIfInBounds_toArray, List.set_cons_zero, List.set_cons_succ]
            refine wpAnyH_takeD (i := 6) (v := .pointer (some ⟨xb, 3, none⟩)) (some 239) rfl (by kernel_rfl) (by kernel_rfl) (by kernel_rfl) rfl (fun _ _ _ h => h) (Or.inl ⟨by rfl, by rintro w ⟨hs1, hs2, hs3, hs4⟩; first | rfl | (go_simp; done) | (go_simp; rfl)⟩) (by assumption) ?_
            simp only [Act.put, List.setIfInBounds_toArray, List.set_cons_zero, List.set_cons_succ]
            refine wpAnyH_takeD (i := 7) (v := .int .i64 x.at_) (some 240) rfl (by kernel_rfl) (by kernel_rfl) (by kernel_rfl) rfl (fun _ _ _ h => h) (yieldsIf_load_run (by rfl) _ rfl rfl (fun _ hs => cell_load (fun W => by kernel_rfl) hs.2.2.2)) (by assumption) ?_
            simp only [Act.put, List.setIfInBounds_toArray, List.set_cons_zero, List.set_cons_succ]
            refine wpAnyH_takeD (i := 9) (v := .pointer (some ⟨xb, 3, none⟩)) (some 242) rfl (by kernel_rfl) (by kernel_rfl) (by kernel_rfl) rfl (fun _ _ _ h => h) (Or.inl ⟨by rfl, by rintro w ⟨hs1, hs2, hs3, hs4⟩; first | rfl | (go_simp; done) | (go_simp; rfl)⟩) (by assumption) ?_
            simp only [Act.put, List.setIfInBounds_toArray, List.set_cons_zero, List.set_cons_succ]
            refine wpAnyH_takeD (i := 10) (v := .int .i64 x.at_) (some 243) rfl (by kernel_rfl) (by kernel_rfl) (by kernel_rfl) rfl (fun _ _ _ h => h) (yieldsIf_load_run (by rfl) _ rfl rfl (fun _ hs => cell_load (fun W => by kernel_rfl) hs.2.2.2)) (by assumption) ?_
            simp only [Act.put, List.setIfInBounds_toArray, List.set_cons_zero, List.set_cons_succ]
            refine wpAnyH_ready (rs := [4]) (by kernel_rfl) (by simp) ?_
            refine AllReadyH.cons rfl (fun K hK => ?_) AllReadyH.nil
            go_simp
            refine (cpN.out _).mono ?_
            rintro e wp1 ⟨rfl, rfl⟩
            refine hK.out _ _ (HSX.out _ _ _ _ _ (PD.out.after (Below.drewZ wd))) (fun hHeld => ?_)
            clear hK
            try simp only [Act.put, List.setIfInBounds_toArray, List.set_cons_zero, List.set_cons_succ]
            refine wpAnyH_ready (rs := [8]) (by kernel_rfl) (by simp) ?_
            refine AllReadyH.cons rfl (fun K hK => ?_) AllReadyH.nil
            go_simp
            refine (cpJ.out _).mono ?_
            rintro e wp1 ⟨rfl, rfl⟩
            refine hK.out _ _ (HSX.out _ _ _ _ _ (PD.out.after (Below.drewZ wd))) (fun hHeld => ?_)
            clear hK
            try simp only [Act.put, List.setIfInBounds_toArray, List.set_cons_zero, List.set_cons_succ]
            refine wpAnyH_ready (rs := [11]) (by kernel_rfl) (by simp) ?_
            refine AllReadyH.cons rfl (fun K hK => ?_) AllReadyH.nil
            go_simp
            refine (cpB.out _).mono ?_
            rintro e wp1 ⟨rfl, rfl⟩
            refine hK.out _ _ (HSX.out _ _ _ _ _ (PD.out.after (Below.drewZ wd))) (fun hHeld => ?_)
            clear hK
            try simp only [Act.put, List.setIfInBounds_toArray, List.set_cons_zero, List.set_cons_succ]
            refine wpAnyH_takeD (i := 12) (v := .int .i64 (1 + (vcpB : Int))) (some 245) rfl (by kernel_rfl) (by kernel_rfl) (by kernel_rfl) rfl (fun _ _ _ h => h) (yieldsIf_bin_run (by rfl) _ _ rfl rfl rfl (fun W => by rfl) (fun W => hsum W)) (by assumption) ?_
            simp only [Act.put, List.setIfInBounds_toArray, List.set_cons_zero, List.set_cons_succ]
            refine wpAnyH_ready (rs := [13]) (by kernel_rfl) (by simp) ?_
            refine AllReadyH.cons rfl (fun K hK => ?_) AllReadyH.nil
            go_simp
            refine (rt_rot (PD.out.after (Below.drewZ wd)).sw.ra (vcpN : Int) (sa_ : Int) (vcpJ : Int) (1 + (vcpB : Int)) hsI).mono ?_
            rintro e we ⟨rfl, S5, s5, a5⟩
            have pe := (PD.out.after (Below.drewZ wd)).stpA s5 a5
            refine hK.out _ _ (HSX.out _ _ _ _ _ pe) (fun hHeld => ?_)
            clear hK
            try simp only [Act.put, List.setIfInBounds_toArray, List.set_cons_zero, List.set_cons_succ]
            refine wpAnyH_done (by kernel_rfl) ?_ _
            have PE := Lib.hid pe
            clear hHeld pe s5 a5 PD
            go_upto_region 48 with (fail)
            refine wp_region_held_drew (S := fun V => V.heap[g]? = some (.cells #[.int .i64 (k : Int), .int .i64 (m : Int), .int .i64 B] 23 (0, 0)) ∧ V.cell? ⟨xb, 1, none⟩ = some (.int .i64 x.sl) ∧ V.cell? ⟨xb, 2, none⟩ = some (.int .i64 x.n) ∧ V.cell? ⟨xb, 3, none⟩ = some (.int .i64 x.at_)) (by kernel_rfl) (HSX.out _ _ _ _ _ (PE.out.after (Below.drewZ we))) (fun hHeld => ?_)
            refine wpAnyH_takeD (i := 0) (some 247) rfl (by kernel_rfl) (by kernel_rfl) (by kernel_rfl) rfl (fun _ _ _ h => h) (Or.inl ⟨by rfl, by rintro w ⟨hs1, hs2, hs3, hs4⟩; first | rfl | (go_simp; done) | (go_simp; rfl)⟩) (by assumption) ?_
            simp only [Act.put, List.setIfInBounds_toArray, List.set_cons_zero, List.set_cons_succ]
            refine wpAnyH_takeD (i := 1) (v := .pointer (some ⟨xb, 1, none⟩)) (some 248) rfl (by kernel_rfl) (by kernel_rfl) (by kernel_rfl) rfl (fun _ _ _ h => h) (Or.inl ⟨by rfl, by rintro w ⟨hs1, hs2, hs3, hs4⟩; first | rfl | (go_simp; done) | (go_simp; rfl)⟩) (by assumption) ?_
            simp only [Act.put, List.setIfInBounds_toArray, List.set_cons_zero, List.set_cons_succ]
            refine wpAnyH_takeD (i := 2) (v := .int .i64 x.sl) (some 249) rfl (by kernel_rfl) (by kernel_rfl) (by kernel_rfl) rfl (fun _ _ _ h => h) (yieldsIf_load_run (by rfl) _ rfl rfl (fun _ hs => cell_load (fun W => by kernel_rfl) hs.2.1)) (by assumption) ?_
            simp only [Act.put, List.setIfInBounds_toArray, List.set_cons_zero, List.set_cons_succ]
            refine wpAnyH_takeD (i := 3) (some 250) rfl (by kernel_rfl) (by kernel_rfl) (by kernel_rfl) rfl (fun _ _ _ h => h) (Or.inl ⟨by rfl, by rintro w ⟨hs1, hs2, hs3, hs4⟩; first | rfl | (go_simp; done) | (go_simp; rfl)⟩) (by assumption) ?_
            simp only [Act.put, List.setIfInBounds_toArray, List.set_cons_zero, List.set_cons_succ]
            refine wpAnyH_takeD (i := 5) (some 252) rfl (by kernel_rfl) (by kernel_rfl) (by kernel_rfl) rfl (fun _ _ _ h => h) (Or.inl ⟨by rfl, by rintro w ⟨hs1, hs2, hs3, hs4⟩; first | rfl | (go_simp; done) | (go_simp; rfl)⟩) (by assumption) ?_
            simp only [Act.put, List.setIfInBounds_toArray, List.set_cons_zero, List.set_cons_succ]
            refine wpAnyH_takeD (i := 6) (v := .pointer (some ⟨xb, 3, none⟩)) (some 253) rfl (by kernel_rfl) (by kernel_rfl) (by kernel_rfl) rfl (fun _ _ _ h => h) (Or.inl ⟨by rfl, by rintro w ⟨hs1, hs2, hs3, hs4⟩; first | rfl | (go_simp; done) | (go_simp; rfl)⟩) (by assumption) ?_
            simp only [Act.put, List.setIfInBounds_toArray, List.set_cons_zero, List.set_cons_succ]
            refine wpAnyH_takeD (i := 7) (v := .int .i64 x.at_) (some 254) rfl (by kernel_rfl) (by kernel_rfl) (by kernel_rfl) rfl (fun _ _ _ h => h) (yieldsIf_load_run (by rfl) _ rfl rfl (fun _ hs => cell_load (fun W => by kernel_rfl) hs.2.2.2)) (by assumption) ?_
            simp only [Act.put, List.setIfInBounds_toArray, List.set_cons_zero, List.set_cons_succ]
            refine wpAnyH_takeD (i := 9) (v := .pointer (some ⟨xb, 3, none⟩)) (some 256) rfl (by kernel_rfl) (by kernel_rfl) (by kernel_rfl) rfl (fun _ _ _ h => h) (Or.inl ⟨by rfl, by rintro w ⟨hs1, hs2, hs3, hs4⟩; first | rfl | (go_simp; done) | (go_simp; rfl)⟩) (by assumption) ?_
            simp only [Act.put, List.setIfInBounds_toArray, List.set_cons_zero, List.set_cons_succ]
            refine wpAnyH_takeD (i := 10) (v := .int .i64 x.at_) (some 257) rfl (by kernel_rfl) (by kernel_rfl) (by kernel_rfl) rfl (fun _ _ _ h => h) (yieldsIf_load_run (by rfl) _ rfl rfl (fun _ hs => cell_load (fun W => by kernel_rfl) hs.2.2.2)) (by assumption) ?_
            simp only [Act.put, List.setIfInBounds_toArray, List.set_cons_zero, List.set_cons_succ]
            refine wpAnyH_ready (rs := [4]) (by kernel_rfl) (by simp) ?_
            refine AllReadyH.cons rfl (fun K hK => ?_) AllReadyH.nil
            go_simp
            refine (cpN.out _).mono ?_
            rintro e wp1 ⟨rfl, rfl⟩
            refine hK.out _ _ (HSX.out _ _ _ _ _ (PE.out.after (Below.drewZ we))) (fun hHeld => ?_)
            clear hK
            try simp only [Act.put, List.setIfInBounds_toArray, List.set_cons_zero, List.set_cons_succ]
            refine wpAnyH_ready (rs := [8]) (by kernel_rfl) (by simp) ?_
            refine AllReadyH.cons rfl (fun K hK => ?_) AllReadyH.nil
            go_simp
            refine (cpJ.out _).mono ?_
            rintro e wp1 ⟨rfl, rfl⟩
            refine hK.out _ _ (HSX.out _ _ _ _ _ (PE.out.after (Below.drewZ we))) (fun hHeld => ?_)
            clear hK
            try simp only [Act.put, List.setIfInBounds_toArray, List.set_cons_zero, List.set_cons_succ]
            refine wpAnyH_ready (rs := [11]) (by kernel_rfl) (by simp) ?_
            refine AllReadyH.cons rfl (fun K hK => ?_) AllReadyH.nil
            go_simp
            refine (cpB.out _).mono ?_
            rintro e wp1 ⟨rfl, rfl⟩
            refine hK.out _ _ (HSX.out _ _ _ _ _ (PE.out.after (Below.drewZ we))) (fun hHeld => ?_)
            clear hK
            try simp only [Act.put, List.setIfInBounds_toArray, List.set_cons_zero, List.set_cons_succ]
            refine wpAnyH_takeD (i := 12) (v := .int .i64 (1 + (vcpB : Int))) (some 259) rfl (by kernel_rfl) (by kernel_rfl) (by kernel_rfl) rfl (fun _ _ _ h => h) (yieldsIf_bin_run (by rfl) _ _ rfl rfl rfl (fun W => by rfl) (fun W => hsum W)) (by assumption) ?_
            simp only [Act.put, List.setIfInBounds_toArray, List.set_cons_zero, List.set_cons_succ]
            refine wpAnyH_ready (rs := [13]) (by kernel_rfl) (by simp) ?_
            refine AllReadyH.cons rfl (fun K hK => ?_) AllReadyH.nil
            go_simp
            refine (kt_rot (PE.out.after (Below.drewZ we)).q (vcpN : Int) (sa_ : Int) (vcpJ : Int) (1 + (vcpB : Int))).mono ?_
            rintro e wf ⟨rfl, S6, s6, a6⟩
            have pf := (PE.out.after (Below.drewZ we)).stpQ s6 a6
            refine hK.out _ _ (HSX.out _ _ _ _ _ pf) (fun hHeld => ?_)
            clear hK
            try simp only [Act.put, List.setIfInBounds_toArray, List.set_cons_zero, List.set_cons_succ]
            refine wpAnyH_done (by kernel_rfl) ?_ _
            have PF := Lib.hid pf
            clear hHeld pf s6 a6 PE
            go_wp2_with (fail)
            go_meet
            exact ⟨_, _, _, PF.out, (HRO.out.up _ (fun M => roM M (sa_ : Int) (vcpJ : Int) (1 + (vcpB : Int))) (fun M h => h.ro _ _ _)).le (by omega)⟩
          · as_aux_lemma =>
            obtain ⟨vcpN, hvcpN⟩ := Int.eq_ofNat_of_zero_le (pk_rng x.sl ((k : Int) + (m : Int)) (by omega)).1
            have hrcpN : vcpN < ((k : Int) + (m : Int)) := by have := (pk_rng x.sl ((k : Int) + (m : Int)) (by omega)).2; omega
            have cpN : Hid (∀ W, Calls Tryz.prog 8 #[.int .i64 x.sl, .int .i64 ((k : Int) + (m : Int))] W fun e w' => e = .returned (.int .i64 (vcpN : Int)) ∧ W = w') := Lib.hid fun W => by rw [← hvcpN]; exact pick13_any x.sl ((k : Int) + (m : Int)) W (in64_iff.1 (by assumption)).1 (in64_iff.1 (by assumption)).2 (by omega) (by omega)
            clear hvcpN
            obtain ⟨vcpJ, hvcpJ⟩ := Int.eq_ofNat_of_zero_le (pk_rng x.at_ 128 (by omega)).1
            have hrcpJ : vcpJ < 128 := by have := (pk_rng x.at_ 128 (by omega)).2; omega
            have cpJ : Hid (∀ W, Calls Tryz.prog 8 #[.int .i64 x.at_, .int .i64 128] W fun e w' => e = .returned (.int .i64 (vcpJ : Int)) ∧ W = w') := Lib.hid fun W => by rw [← hvcpJ]; exact pick13_any x.at_ 128 W (in64_iff.1 (by assumption)).1 (in64_iff.1 (by assumption)).2 (by omega) (by omega)
            clear hvcpJ
            obtain ⟨vcpB, hvcpB⟩ := Int.eq_ofNat_of_zero_le (pk_rng x.at_ 255 (by omega)).1
            have hrcpB : vcpB < 255 := by have := (pk_rng x.at_ 255 (by omega)).2; omega
            have cpB : Hid (∀ W, Calls Tryz.prog 8 #[.int .i64 x.at_, .int .i64 255] W fun e w' => e = .returned (.int .i64 (vcpB : Int)) ∧ W = w') := Lib.hid fun W => by rw [← hvcpB]; exact pick13_any x.at_ 255 W (in64_iff.1 (by assumption)).1 (in64_iff.1 (by assumption)).2 (by omega) (by omega)
            clear hvcpB
            obtain ⟨NN, hNN⟩ : ∃ NN, pk x.n T = NN := ⟨_, rfl⟩
            have hTr := HTR.out
            have hNr : 0 ≤ NN ∧ NN < T := by rw [← hNN]; exact pk_rng _ _ (by omega)
            have cpM : Hid (∀ W, Calls Tryz.prog 8 #[.int .i64 x.n, .int .i64 T] W fun e w' => e = .returned (.int .i64 NN) ∧ W = w') := Lib.hid fun W => by rw [← hNN]; exact pick13_any x.n T W (in64_iff.1 i2).1 (in64_iff.1 i2).2 (by omega) (by omega)
            obtain ⟨sa_, hsa, hsa255⟩ := hSecI.out NN hNr.1 hNr.2
            have cSe : Hid (∀ W, Calls Tryz.prog 22 #[.agg #[.int .i64 (k : Int), .int .i64 (m : Int), .int .i64 B], .int .i64 NN] W fun e w' => e = .returned (.int .i64 (sa_ : Int)) ∧ Below W.heap.size W w') := Lib.hid fun W => by rw [← hsa]; exact rsector_any _ _ _ _ _
            have hsI : In64 (sa_ : Int) := in64_iff.2 (by omega)
            have hsum : ∀ W : World, (binOp .add 3 (.int .i64 1) (.int .i64 (vcpB : Int))).run Tryz.prog W = .ok (.int .i64 (1 + (vcpB : Int))) W := fun W => sum_left vcpB (by omega) W
            clear hNN hNr hTr hsa hsa255
            have HRO1 : ROk n R 1000000000000 := HRO.out.le (by omega)
            have hP := HPB.out
            have HSX : Hid (∀ V Sa Sb Ra Rq, P13 W3 V Sa Sb ka kb n g (k : Int) (m : Int) B Ra Rq xb X → (fun V => V.heap[g]? = some (.cells #[.int .i64 (k : Int), .int .i64 (m : Int), .int .i64 B] 23 (0, 0)) ∧ V.cell? ⟨xb, 1, none⟩ = some (.int .i64 x.sl) ∧ V.cell? ⟨xb, 2, none⟩ = some (.int .i64 x.n) ∧ V.cell? ⟨xb, 3, none⟩ = some (.int .i64 x.at_)) V) := Lib.hid fun V _ _ _ _ h => ⟨h.sw.gb, hS1.out _ _ _ _ _ h, hS2.out _ _ _ _ _ h, hS3.out _ _ _ _ _ h⟩
            go_upto_region 46 with (fail)
            refine wp_region_held_drew (S := fun V => V.heap[g]? = some (.cells #[.int .i64 (k : Int), .int .i64 (m : Int), .int .i64 B] 23 (0, 0)) ∧ V.cell? ⟨xb, 1, none⟩ = some (.int .i64 x.sl) ∧ V.cell? ⟨xb, 2, none⟩ = some (.int .i64 x.n) ∧ V.cell? ⟨xb, 3, none⟩ = some (.int .i64 x.at_)) (by kernel_rfl) (HSX.out _ _ _ _ _ (hP.after (Below.drewZ wb))) (fun hHeld => ?_)
            refine wpAnyH_takeD (i := 0) (v := .agg #[.int .i64 (k : Int), .int .i64 (m : Int), .int .i64 B]) (some 226) rfl (by kernel_rfl) (by kernel_rfl) (by kernel_rfl) rfl (fun _ _ _ h => h) (yieldsIf_load_run (by rfl) _ rfl rfl (fun _ hs => geo_load hs.1)) (by assumption) ?_
            simp only [Act.put, List.setIfInBounds_toArray, List.set_cons_zero, List.set_cons_succ]
            refine wpAnyH_takeD (i := 1) (v := .pointer (some ⟨xb, 2, none⟩)) (some 227) rfl (by kernel_rfl) (by kernel_rfl) (by kernel_rfl) rfl (fun _ _ _ h => h) (Or.inl ⟨by rfl, by rintro w ⟨hs1, hs2, hs3, hs4⟩; first | rfl | (go_simp; done) | (go_simp; rfl)⟩) (by assumption) ?_
            simp only [Act.put, List.setIfInBounds_toArray, List.set_cons_zero, List.set_cons_succ]
            refine wpAnyH_takeD (i := 2) (v := .int .i64 x.n) (some 228) rfl (by kernel_rfl) (by kernel_rfl) (by kernel_rfl) rfl (fun _ _ _ h => h) (yieldsIf_load_run (by rfl) _ rfl rfl (fun _ hs => cell_load (fun W => by kernel_rfl) hs.2.2.1)) (by assumption) ?_
            simp only [Act.put, List.setIfInBounds_toArray, List.set_cons_zero, List.set_cons_succ]
            refine wpAnyH_takeD (i := 3) (v := .agg #[.int .i64 (k : Int), .int .i64 (m : Int), .int .i64 B]) (some 229) rfl (by kernel_rfl) (by kernel_rfl) (by kernel_rfl) rfl (fun _ _ _ h => h) (yieldsIf_load_run (by rfl) _ rfl rfl (fun _ hs => geo_load hs.1)) (by assumption) ?_
            simp only [Act.put, List.setIfInBounds_toArray, List.set_cons_zero, List.set_cons_succ]
            refine wpAnyH_ready (rs := [4]) (by kernel_rfl) (by simp) ?_
            refine AllReadyH.cons rfl (fun K hK => ?_) AllReadyH.nil
            go_simp
            refine (CT.out wb.drew).mono ?_
            rintro e wc ⟨rfl, bc0⟩
            have pc := (hP.after (Below.drewZ wb)).after bc0
            refine hK.out _ _ (HSX.out _ _ _ _ _ pc) (fun hHeld => ?_)
            clear hK
            try simp only [Act.put, List.setIfInBounds_toArray, List.set_cons_zero, List.set_cons_succ]
            refine wpAnyH_ready (rs := [5]) (by kernel_rfl) (by simp) ?_
            refine AllReadyH.cons rfl (fun K hK => ?_) AllReadyH.nil
            go_simp
            refine (cpM.out wc).mono ?_
            rintro e wc' ⟨rfl, rfl⟩
            refine hK.out _ _ (HSX.out _ _ _ _ _ pc) (fun hHeld => ?_)
            clear hK
            try simp only [Act.put, List.setIfInBounds_toArray, List.set_cons_zero, List.set_cons_succ]
            refine wpAnyH_ready (rs := [6]) (by kernel_rfl) (by simp) ?_
            refine AllReadyH.cons rfl (fun K hK => ?_) AllReadyH.nil
            go_simp
            refine (cSe.out wc).mono ?_
            rintro e wd ⟨rfl, bd0⟩
            have pd := pc.after bd0
            refine hK.out _ _ (HSX.out _ _ _ _ _ pd) (fun hHeld => ?_)
            clear hK
            try simp only [Act.put, List.setIfInBounds_toArray, List.set_cons_zero, List.set_cons_succ]
            refine wpAnyH_takeD (i := 7) (v := .int .i64 (sa_ : Int)) (some 26) rfl (by kernel_rfl) (by kernel_rfl) (by kernel_rfl) rfl (fun _ _ _ h => h) (Or.inl ⟨by rfl, by rintro w ⟨hs1, hs2, hs3, hs4⟩; first | rfl | (go_simp; done) | (go_simp; rfl)⟩) (by assumption) ?_
            simp only [Act.put, List.setIfInBounds_toArray, List.set_cons_zero, List.set_cons_succ]
            refine wpAnyH_done (by kernel_rfl) ?_ _
            have PD := Lib.hid pd
            clear hHeld pc pd bc0 bd0 hP
            go_upto_region 47 with (fail)
            refine wp_region_held_drew (S := fun V => V.heap[g]? = some (.cells #[.int .i64 (k : Int), .int .i64 (m : Int), .int .i64 B] 23 (0, 0)) ∧ V.cell? ⟨xb, 1, none⟩ = some (.int .i64 x.sl) ∧ V.cell? ⟨xb, 2, none⟩ = some (.int .i64 x.n) ∧ V.cell? ⟨xb, 3, none⟩ = some (.int .i64 x.at_)) (by kernel_rfl) (HSX.out _ _ _ _ _ (PD.out.after (Below.drewZ wd))) (fun hHeld => ?_)
            refine wpAnyH_takeD (i := 0) (some 233) rfl (by kernel_rfl) (by kernel_rfl) (by kernel_rfl) rfl (fun _ _ _ h => h) (Or.inl ⟨by rfl, by rintro w ⟨hs1, hs2, hs3, hs4⟩; first | rfl | (go_simp; done) | (go_simp; rfl)⟩) (by assumption) ?_
            simp only [Act.put, List.setIfInBounds_toArray, List.set_cons_zero, List.set_cons_succ]
            refine wpAnyH_takeD (i := 1) (v := .pointer (some ⟨xb, 1, none⟩)) (some 234) rfl (by kernel_rfl) (by kernel_rfl) (by kernel_rfl) rfl (fun _ _ _ h => h) (Or.inl ⟨by rfl, by rintro w ⟨hs1, hs2, hs3, hs4⟩; first | rfl | (go_simp; done) | (go_simp; rfl)⟩) (by assumption) ?_
            simp only [Act.put, List.setIfInBounds_toArray, List.set_cons_zero, List.set_cons_succ]
            refine wpAnyH_takeD (i := 2) (v := .int .i64 x.sl) (some 235) rfl (by kernel_rfl) (by kernel_rfl) (by kernel_rfl) rfl (fun _ _ _ h => h) (yieldsIf_load_run (by rfl) _ rfl rfl (fun _ hs => cell_load (fun W => by kernel_rfl) hs.2.1)) (by assumption) ?_
            simp only [Act.put, List.setIfInBounds_toArray, List.set_cons_zero, List.set_cons_succ]
            refine wpAnyH_takeD (i := 3) (some 236) rfl (by kernel_rfl) (by kernel_rfl) (by kernel_rfl) rfl (fun _ _ _ h => h) (Or.inl ⟨by rfl, by rintro w ⟨hs1, hs2, hs3, hs4⟩; first | rfl | (go_simp; done) | (go_simp; rfl)⟩) (by assumption) ?_
            simp only [Act.put, List.setIfInBounds_toArray, List.set_cons_zero, List.set_cons_succ]
            refine wpAnyH_takeD (i := 5) (some 238) rfl (by kernel_rfl) (by kernel_rfl) (by kernel_rfl) rfl (fun _ _ _ h => h) (Or.inl ⟨by rfl, by rintro w ⟨hs1, hs2, hs3, hs4⟩; first | rfl | (go_simp; done) | (go_simp; rfl)⟩) (by assumption) ?_
            simp only [Act.put, List.setIfInBounds_toArray, List.set_cons_zero, List.set_cons_succ]
            refine wpAnyH_takeD (i := 6) (v := .pointer (some ⟨xb, 3, none⟩)) (some 239) rfl (by kernel_rfl) (by kernel_rfl) (by kernel_rfl) rfl (fun _ _ _ h => h) (Or.inl ⟨by rfl, by rintro w ⟨hs1, hs2, hs3, hs4⟩; first | rfl | (go_simp; done) | (go_simp; rfl)⟩) (by assumption) ?_
            simp only [Act.put, List.setIfInBounds_toArray, List.set_cons_zero, List.set_cons_succ]
            refine wpAnyH_takeD (i := 7) (v := .int .i64 x.at_) (some 240) rfl (by kernel_rfl) (by kernel_rfl) (by kernel_rfl) rfl (fun _ _ _ h => h) (yieldsIf_load_run (by rfl) _ rfl rfl (fun _ hs => cell_load (fun W => by kernel_rfl) hs.2.2.2)) (by assumption) ?_
            simp only [Act.put, List.setIfInBounds_toArray, List.set_cons_zero, List.set_cons_succ]
            refine wpAnyH_takeD (i := 9) (v := .pointer (some ⟨xb, 3, none⟩)) (some 242) rfl (by kernel_rfl) (by kernel_rfl) (by kernel_rfl) rfl (fun _ _ _ h => h) (Or.inl ⟨by rfl, by rintro w ⟨hs1, hs2, hs3, hs4⟩; first | rfl | (go_simp; done) | (go_simp; rfl)⟩) (by assumption) ?_
            simp only [Act.put, List.setIfInBounds_toArray, List.set_cons_zero, List.set_cons_succ]
            refine wpAnyH_takeD (i := 10) (v := .int .i64 x.at_) (some 243) rfl (by kernel_rfl) (by kernel_rfl) (by kernel_rfl) rfl (fun _ _ _ h => h) (yieldsIf_load_run (by rfl) _ rfl rfl (fun _ hs => cell_load (fun W => by kernel_rfl) hs.2.2.2)) (by assumption) ?_
            simp only [Act.put, List.setIfInBounds_toArray, List.set_cons_zero, List.set_cons_succ]
            refine wpAnyH_ready (rs := [4]) (by kernel_rfl) (by simp) ?_
            refine AllReadyH.cons rfl (fun K hK => ?_) AllReadyH.nil
            go_simp
            refine (cpN.out _).mono ?_
            rintro e wp1 ⟨rfl, rfl⟩
            refine hK.out _ _ (HSX.out _ _ _ _ _ (PD.out.after (Below.drewZ wd))) (fun hHeld => ?_)
            clear hK
            try simp only [Act.put, List.setIfInBounds_toArray, List.set_cons_zero, List.set_cons_succ]
            refine wpAnyH_ready (rs := [8]) (by kernel_rfl) (by simp) ?_
            refine AllReadyH.cons rfl (fun K hK => ?_) AllReadyH.nil
            go_simp
            refine (cpJ.out _).mono ?_
            rintro e wp1 ⟨rfl, rfl⟩
            refine hK.out _ _ (HSX.out _ _ _ _ _ (PD.out.after (Below.drewZ wd))) (fun hHeld => ?_)
            clear hK
            try simp only [Act.put, List.setIfInBounds_toArray, List.set_cons_zero, List.set_cons_succ]
            refine wpAnyH_ready (rs := [11]) (by kernel_rfl) (by simp) ?_
            refine AllReadyH.cons rfl (fun K hK => ?_) AllReadyH.nil
            go_simp
            refine (cpB.out _).mono ?_
            rintro e wp1 ⟨rfl, rfl⟩
            refine hK.out _ _ (HSX.out _ _ _ _ _ (PD.out.after (Below.drewZ wd))) (fun hHeld => ?_)
            clear hK
            try simp only [Act.put, List.setIfInBounds_toArray, List.set_cons_zero, List.set_cons_succ]
            refine wpAnyH_takeD (i := 12) (v := .int .i64 (1 + (vcpB : Int))) (some 245) rfl (by kernel_rfl) (by kernel_rfl) (by kernel_rfl) rfl (fun _ _ _ h => h) (yieldsIf_bin_run (by rfl) _ _ rfl rfl rfl (fun W => by rfl) (fun W => hsum W)) (by assumption) ?_
            simp only [Act.put, List.setIfInBounds_toArray, List.set_cons_zero, List.set_cons_succ]
            refine wpAnyH_ready (rs := [13]) (by kernel_rfl) (by simp) ?_
            refine AllReadyH.cons rfl (fun K hK => ?_) AllReadyH.nil
            go_simp
            refine (rt_rot (PD.out.after (Below.drewZ wd)).sw.ra (vcpN : Int) (sa_ : Int) (vcpJ : Int) (1 + (vcpB : Int)) hsI).mono ?_
            rintro e we ⟨rfl, S5, s5, a5⟩
            have pe := (PD.out.after (Below.drewZ wd)).stpA s5 a5
            refine hK.out _ _ (HSX.out _ _ _ _ _ pe) (fun hHeld => ?_)
            clear hK
            try simp only [Act.put, List.setIfInBounds_toArray, List.set_cons_zero, List.set_cons_succ]
            refine wpAnyH_done (by kernel_rfl) ?_ _
            have PE := Lib.hid pe
            clear hHeld pe s5 a5 PD
            go_upto_region 48 with (fail)
            refine wp_region_held_drew (S := fun V => V.heap[g]? = some (.cells #[.int .i64 (k : Int), .int .i64 (m : Int), .int .i64 B] 23 (0, 0)) ∧ V.cell? ⟨xb, 1, none⟩ = some (.int .i64 x.sl) ∧ V.cell? ⟨xb, 2, none⟩ = some (.int .i64 x.n) ∧ V.cell? ⟨xb, 3, none⟩ = some (.int .i64 x.at_)) (by kernel_rfl) (HSX.out _ _ _ _ _ (PE.out.after (Below.drewZ we))) (fun hHeld => ?_)
            refine wpAnyH_takeD (i := 0) (some 247) rfl (by kernel_rfl) (by kernel_rfl) (by kernel_rfl) rfl (fun _ _ _ h => h) (Or.inl ⟨by rfl, by rintro w ⟨hs1, hs2, hs3, hs4⟩; first | rfl | (go_simp; done) | (go_simp; rfl)⟩) (by assumption) ?_
            simp only [Act.put, List.setIfInBounds_toArray, List.set_cons_zero, List.set_cons_succ]
            refine wpAnyH_takeD (i := 1) (v := .pointer (some ⟨xb, 1, none⟩)) (some 248) rfl (by kernel_rfl) (by kernel_rfl) (by kernel_rfl) rfl (fun _ _ _ h => h) (Or.inl ⟨by rfl, by rintro w ⟨hs1, hs2, hs3, hs4⟩; first | rfl | (go_simp; done) | (go_simp; rfl)⟩) (by assumption) ?_
            simp only [Act.put, List.setIfInBounds_toArray, List.set_cons_zero, List.set_cons_succ]
            refine wpAnyH_takeD (i := 2) (v := .int .i64 x.sl) (some 249) rfl (by kernel_rfl) (by kernel_rfl) (by kernel_rfl) rfl (fun _ _ _ h => h) (yieldsIf_load_run (by rfl) _ rfl rfl (fun _ hs => cell_load (fun W => by kernel_rfl) hs.2.1)) (by assumption) ?_
            simp only [Act.put, List.setIfInBounds_toArray, List.set_cons_zero, List.set_cons_succ]
            refine wpAnyH_takeD (i := 3) (some 250) rfl (by kernel_rfl) (by kernel_rfl) (by kernel_rfl) rfl (fun _ _ _ h => h) (Or.inl ⟨by rfl, by rintro w ⟨hs1, hs2, hs3, hs4⟩; first | rfl | (go_simp; done) | (go_simp; rfl)⟩) (by assumption) ?_
            simp only [Act.put, List.setIfInBounds_toArray, List.set_cons_zero, List.set_cons_succ]
            refine wpAnyH_takeD (i := 5) (some 252) rfl (by kernel_rfl) (by kernel_rfl) (by kernel_rfl) rfl (fun _ _ _ h => h) (Or.inl ⟨by rfl, by rintro w ⟨hs1, hs2, hs3, hs4⟩; first | rfl | (go_simp; done) | (go_simp; rfl)⟩) (by assumption) ?_
            simp only [Act.put, List.setIfInBounds_toArray, List.set_cons_zero, List.set_cons_succ]
            refine wpAnyH_takeD (i := 6) (v := .pointer (some ⟨xb, 3, none⟩)) (some 253) rfl (by kernel_rfl) (by kernel_rfl) (by kernel_rfl) rfl (fun _ _ _ h => h) (Or.inl ⟨by rfl, by rintro w ⟨hs1, hs2, hs3, hs4⟩; first | rfl | (go_simp; done) | (go_simp; rfl)⟩) (by assumption) ?_
            simp only [Act.put, List.setIfInBounds_toArray, List.set_cons_zero, List.set_cons_succ]
            refine wpAnyH_takeD (i := 7) (v := .int .i64 x.at_) (some 254) rfl (by kernel_rfl) (by kernel_rfl) (by kernel_rfl) rfl (fun _ _ _ h => h) (yieldsIf_load_run (by rfl) _ rfl rfl (fun _ hs => cell_load (fun W => by kernel_rfl) hs.2.2.2)) (by assumption) ?_
            simp only [Act.put, List.setIfInBounds_toArray, List.set_cons_zero, List.set_cons_succ]
            refine wpAnyH_takeD (i := 9) (v := .pointer (some ⟨xb, 3, none⟩)) (some 256) rfl (by kernel_rfl) (by kernel_rfl) (by kernel_rfl) rfl (fun _ _ _ h => h) (Or.inl ⟨by rfl, by rintro w ⟨hs1, hs2, hs3, hs4⟩; first | rfl | (go_simp; done) | (go_simp; rfl)⟩) (by assumption) ?_
            simp only [Act.put, List.setIfInBounds_toArray, List.set_cons_zero, List.set_cons_succ]
            refine wpAnyH_takeD (i := 10) (v := .int .i64 x.at_) (some 257) rfl (by kernel_rfl) (by kernel_rfl) (by kernel_rfl) rfl (fun _ _ _ h => h) (yieldsIf_load_run (by rfl) _ rfl rfl (fun _ hs => cell_load (fun W => by kernel_rfl) hs.2.2.2)) (by assumption) ?_
            simp only [Act.put, List.setIfInBounds_toArray, List.set_cons_zero, List.set_cons_succ]
            refine wpAnyH_ready (rs := [4]) (by kernel_rfl) (by simp) ?_
            refine AllReadyH.cons rfl (fun K hK => ?_) AllReadyH.nil
            go_simp
            refine (cpN.out _).mono ?_
            rintro e wp1 ⟨rfl, rfl⟩
            refine hK.out _ _ (HSX.out _ _ _ _ _ (PE.out.after (Below.drewZ we))) (fun hHeld => ?_)
            clear hK
            try simp only [Act.put, List.setIfInBounds_toArray, List.set_cons_zero, List.set_cons_succ]
            refine wpAnyH_ready (rs := [8]) (by kernel_rfl) (by simp) ?_
            refine AllReadyH.cons rfl (fun K hK => ?_) AllReadyH.nil
            go_simp
            refine (cpJ.out _).mono ?_
            rintro e wp1 ⟨rfl, rfl⟩
            refine hK.out _ _ (HSX.out _ _ _ _ _ (PE.out.after (Below.drewZ we))) (fun hHeld => ?_)
            clear hK
            try simp only [Act.put, List.setIfInBounds_toArray, List.set_cons_zero, List.set_cons_succ]
            refine wpAnyH_ready (rs := [11]) (by kernel_rfl) (by simp) ?_
            refine AllReadyH.cons rfl (fun K hK => ?_) AllReadyH.nil
            go_simp
            refine (cpB.out _).mono ?_
            rintro e wp1 ⟨rfl, rfl⟩
            refine hK.out _ _ (HSX.out _ _ _ _ _ (PE.out.after (Below.drewZ we))) (fun hHeld => ?_)
            clear hK
            try simp only [Act.put, List.setIfInBounds_toArray, List.set_cons_zero, List.set_cons_succ]
            refine wpAnyH_takeD (i := 12) (v := .int .i64 (1 + (vcpB : Int))) (some 259) rfl (by kernel_rfl) (by kernel_rfl) (by kernel_rfl) rfl (fun _ _ _ h => h) (yieldsIf_bin_run (by rfl) _ _ rfl rfl rfl (fun W => by rfl) (fun W => hsum W)) (by assumption) ?_
            simp only [Act.put, List.setIfInBounds_toArray, List.set_cons_zero, List.set_cons_succ]
            refine wpAnyH_ready (rs := [13]) (by kernel_rfl) (by simp) ?_
            refine AllReadyH.cons rfl (fun K hK => ?_) AllReadyH.nil
            go_simp
            refine (kt_rot (PE.out.after (Below.drewZ we)).q (vcpN : Int) (sa_ : Int) (vcpJ : Int) (1 + (vcpB : Int))).mono ?_
            rintro e wf ⟨rfl, S6, s6, a6⟩
            have pf := (PE.out.after (Below.drewZ we)).stpQ s6 a6
            refine hK.out _ _ (HSX.out _ _ _ _ _ pf) (fun hHeld => ?_)
            clear hK
            try simp only [Act.put, List.setIfInBounds_toArray, List.set_cons_zero, List.set_cons_succ]
            refine wpAnyH_done (by kernel_rfl) ?_ _
            have PF := Lib.hid pf
            clear hHeld pf s6 a6 PE
            go_wp2_with (fail)
            go_meet
            exact ⟨_, _, _, PF.out, (HRO.out.up _ (fun M => roM M (sa_ : Int) (vcpJ : Int) (1 + (vcpB : Int))) (fun M h => h.ro _ _ _)).le (by omega)⟩
          · as_aux_lemma =>
            go_wp2_with (fail)
            go_meet
            exact ⟨_, _, _, HPB.out, HRO.out.le (by omega)⟩
          · as_aux_lemma =>
            go_wp2_with (fail)
            go_meet
            exact ⟨_, _, _, HPB.out, HRO.out.le (by omega)⟩
        case rest =>
        obtain ⟨Sa', Sb', R', hP', hro'⟩ := hcut
        as_aux_lemma =>
        have HP := Lib.hid hP'
        have HR1 : ROk n R' 1000000000000 := hro'.le (by omega)
        obtain ⟨Y, hY⟩ : ∃ Y, stR n R' id0 (k : Int) (m : Int) B (x.ls.take q) x.n = Y := ⟨_, rfl⟩
        have hYl := stR_len13 (n := n) (R := R') (id := id0) (K := (k : Int)) (M := (m : Int)) (B := B) (N := x.n) (l := x.ls.take q)
        rw [hY] at hYl
        have hY1 := Lib.hid hYl.1
        have hY2 : Hid (Y.2.1.length ≤ 140737488355328) := Lib.hid (by have := hYl.2; have := HSN.out.1; omega)
        have cA := str_any hP'.sw.ra hP'.sw.tb HR1 id0 (k : Int) (m : Int) B x.n (.slice sa q sc) (x.ls.take q) (HSW.out _ _ _ _ _ hP') (show capOk (.slice sa q sc) from HSN.out.2) (by have := HSN.out.1; omega)
        rw [hY] at cA
        obtain ⟨c0, c1, c2⟩ := hP'.sw.cells
        have e2 := hS2.out _ _ _ _ _ hP'
        have HRO' := Lib.hid hro'
        have HY := Lib.hid hY
        clear hP' hYl hY hro' HPB
        go_wp2_with (fail)
        clear c0 c1 c2 e2
        refine cA.mono ?_
        rintro e w5 ⟨vd, vb, rfl, od, ob, b5⟩
        have p5 := HP.out.after b5
        have cQ := kstr_any p5.q HR1 id0 (k : Int) (m : Int) B x.n (.slice sa q sc) (x.ls.take q) (HSW.out _ _ _ _ _ p5) (by have := HSN.out.1; omega)
        rw [HY.out] at cQ
        obtain ⟨xa, xc, hf1⟩ := od.reads.form
        rw [show (tx Y.1).length = Y.1.length from List.length_map ..] at hf1
        subst hf1
        obtain ⟨ya, yc, hf2⟩ := ob.reads.form
        rw [List.length_map] at hf2
        subst hf2
        obtain ⟨c0, c1, c2⟩ := p5.sw.cells
        have e2 := hS2.out _ _ _ _ _ p5
        have OD := Lib.hid od.reads
        have OB := Lib.hid ob.reads
        have P5 := Lib.hid p5
        clear cA od ob b5 p5 HP HR1
        go_wp2_with (fail)
        clear c0 c1 c2 e2
        refine cQ.mono ?_
        rintro e w6 ⟨vd2, vb2, rfl, od2, ob2, b6⟩
        have p6 := P5.out.after b6
        obtain ⟨xa2, xc2, hf1⟩ := od2.reads.form
        rw [show (tx Y.1).length = Y.1.length from List.length_map ..] at hf1
        subst hf1
        obtain ⟨ya2, yc2, hf2⟩ := ob2.reads.form
        rw [List.length_map] at hf2
        subst hf2
        have cS := same_any (.slice xa Y.1.length xc) (.slice xa2 Y.1.length xc2) Y.1 Y.1 w6 (OD.out.below b6) od2.reads hY1.out hY1.out
        rw [decide_eq_true rfl] at cS
        have OB6 := Lib.hid (OB.out.below b6)
        have OB2 := Lib.hid ob2.reads
        have P6 := Lib.hid p6
        have te : (Y.2.2 != Y.2.2) = false := bne_self_eq_false _
        clear cQ od2 ob2 b6 p6 OD OB P5
        go_wp2_with (fail)
        refine cS.mono ?_
        rintro e w7 ⟨rfl, b7, -⟩
        have cI := ints8_any (.slice ya Y.2.1.length yc) (.slice ya2 Y.2.1.length yc2) Y.2.1 Y.2.1 w7 (OB6.out.below b7) (OB2.out.below b7) hY2.out hY2.out
        rw [decide_eq_true rfl] at cI
        have P7 := Lib.hid (P6.out.after b7)
        clear cS b7 OB6 OB2 P6
        go_wp2_with (fail)
        refine cI.mono ?_
        rintro e w8 ⟨rfl, b8, -⟩
        have p8 := P7.out.after b8
        have cAa := rt_acts p8.sw.ra
        have cAq := kt_acts p8.q
        have ta : (R'.acts != R'.acts) = false := bne_self_eq_false _
        have P8 := Lib.hid p8
        clear cI b8 p8 P7
        go_wp2_with (fail)
        refine cAa.mono ?_
        rintro e w9 ⟨rfl, rfl⟩
        go_wp2_with (fail)
        refine cAq.mono ?_
        rintro e w9 ⟨rfl, rfl⟩
        clear cAa cAq
        go_wp2_with (fail)
        go_roundw
        case rel => exact ⟨i + 1, by omega, by omega, by go_num, Sa', Sb', R', P8.out.sw, P8.out.q, P8.out.d, P8.out.gn, HRO'.out⟩
        case measure => simp [RowKit.intOf]; omega
      · have hfin := Lib.hid hsw.ra.b
        have hcd : ((i : Int) < (la.length : Int) ∧ ¬ ((i : Int) < 40)) ∨ ¬ ((i : Int) < (la.length : Int)) := by omega
        clear hsw hq hd hgn hro hlt
        rcases hcd with ⟨kx, k50⟩ | kx
        · go_wp2_with (fail)
          go_meet
          exact hfin.out
        · go_wp2_with (fail)
          go_meet
          exact hfin.out
  case rest =>
    have hfin := Lib.hid (HB3.out.trans (hcut.mono HB3.out.size))
    clear H4 hw34 hcut
    go_wp2_with (fail)
    go_ret
    exact ⟨rfl, hfin.out⟩
end Go.Proofs.YtjgafpkpoppcbaaGreatDoor
