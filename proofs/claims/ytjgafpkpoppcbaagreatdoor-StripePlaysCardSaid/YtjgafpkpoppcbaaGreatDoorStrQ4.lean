import Derived.Test.YtjgafpkpoppcbaaGreatDoorStrQ3
import Derived.Test.YtjgafpkpoppcbaaGreatDoorStrHarm
import Derived.Test.YtjgafpkpoppcbaaGreatDoorLstr
import Derived.Test.YtjgafpkpoppcbaaGreatDoorLrs
set_option linter.unusedVariables false
set_option linter.unusedSimpArgs false
namespace Go.Proofs.YtjgafpkpoppcbaaGreatDoor
open Go.RowKit
set_option maxRecDepth 100000
section
variable {w w1 : World} {S : Nat → Prop} {k n : Nat} {R : Rk}
set_option maxHeartbeats 8000000 in
theorem kstw_any (h : KA w S w1 k n R) (c : Nat) (hk : ROk n R c) (id K M B N : Int) (vl vd : Value) (l : List Int) (data : List ByteArray) (hv : Reads w1 vl (l.map (.int .i64))) (hvS : l ≠ [] → ∀ q, vl.ownBlock = some q → ¬ S q) (hl : l.length ≤ 1000000) (hc : c + l.length ≤ 1000000000000) (hd : Reads w1 vd (tx data)) (hF : Fits data) (hdl : data.length ≤ 1000000) :
    Calls Tryz.prog 11 #[.pointer (some ⟨k, 0, none⟩), .int .i64 id, .agg #[.int .i64 K, .int .i64 M, .int .i64 B], vl, .agg #[.int .i64 N, vd]] w1 (KEDoes w S w1 k n (stW n R id K M B l N data)) := by
  obtain ⟨p, hp⟩ : ∃ p, w1.heap.size = p := ⟨_, rfl⟩
  obtain ⟨W0, hW0⟩ : ∃ W0, W0 = (w1.alloc (.cells #[.int .i64 K, .int .i64 M, .int .i64 B] 23)).alloc (.cells #[.int .i64 N, vd] 42) := ⟨_, rfl⟩
  have hba : Below w1.heap.size w1 (w1.alloc (.cells #[.int .i64 K, .int .i64 M, .int .i64 B] 23)) := (Below.refl _ _).alloc (Nat.le_refl _) _
  have hbb : Below (w1.alloc (.cells #[.int .i64 K, .int .i64 M, .int .i64 B] 23)).heap.size (w1.alloc (.cells #[.int .i64 K, .int .i64 M, .int .i64 B] 23)) W0 := by rw [hW0]; exact (Below.refl _ _).alloc (Nat.le_refl _) _
  have hsz : (w1.alloc (.cells #[.int .i64 K, .int .i64 M, .int .i64 B] 23)).heap.size = p + 1 := by rw [← hp]; simp
  have hb0 : Below w1.heap.size w1 W0 := hba.trans (hbb.mono hba.size)
  have f1 : W0.heap[p]? = some (.cells #[.int .i64 K, .int .i64 M, .int .i64 B] 23 (0, 0)) := (hbb.block p (by omega)).trans (by rw [← hp]; exact heap_alloc_new _ _)
  have f2 : W0.heap[p + 1]? = some (.cells #[.int .i64 N, vd] 42 (0, 0)) := by rw [hW0, ← hsz]; exact heap_alloc_new _ _
  have hpl : p + 1 < W0.heap.size := (Array.getElem?_eq_some_iff.1 f2).1
  have cA := kallow_any (h.after hb0) id K M B vl l (hv.below hb0) hl N
  have hpS : ∀ q, S q → q < p := fun q hq => by have := h.lt q hq; omega
  obtain ⟨i2, q1, q2, q3, q4⟩ := info_parts Tryz.infoIc
  obtain ⟨da, dc, hdf⟩ := hd.form
  rw [show (tx data).length = data.length from List.length_map ..] at hdf
  subst hdf
  obtain ⟨va, vc, rfl, hit⟩ := Reads.items hv
  have HH := Lib.hid h
  have HK := Lib.hid hk
  have HD := Lib.hid hd
  have HFD := Lib.hid hF
  have HPS := Lib.hid hpS
  have HB0 := Lib.hid hb0
  have HIT : Hid (∀ w2, Below w1.heap.size w1 w2 → ∀ i (hi : i < l.length), ∃ cb co, va = some ⟨cb, co, none⟩ ∧ ∀ R' v xs wr, KOwn w S w2 k n R' 3 v xs wr → wr.cell? ⟨cb, co + i, none⟩ = some (.int .i64 l[i])) := Lib.hid fun w2 hw2 i hi => by
    obtain ⟨cb, co, e1, e2, e3⟩ := hit i hi
    refine ⟨cb, co, e1, fun R' v xs wr hr => ?_⟩
    exact (cell_of_heap (hr.keep (Nat.lt_of_lt_of_le e2 hw2.size) (hvS (fun z => by rw [z] at hi; exact Nat.not_lt_zero _ hi) cb (by rw [e1]; rfl))) (co + i)).trans ((hw2.cell (p := ⟨cb, co + i, none⟩) e2).trans e3)
  have h7 := h.slen.2
  have HSL := Lib.hid h7
  obtain ⟨X, hX⟩ : ∃ X, stW n R id K M B l N data = X := ⟨_, rfl⟩
  rw [hX]
  have HX := Lib.hid hX
  have c0 : W0.cell? ⟨p, 0, none⟩ = some (.int .i64 K) := heap_cell f1 rfl
  have c1 : W0.cell? ⟨p, 1, none⟩ = some (.int .i64 M) := heap_cell f1 rfl
  have c2 : W0.cell? ⟨p, 2, none⟩ = some (.int .i64 B) := heap_cell f1 rfl
  have d0 : W0.cell? ⟨p + 1, 0, none⟩ = some (.int .i64 N) := heap_cell f2 rfl
  have d1 : W0.cell? ⟨p + 1, 1, none⟩ = some (.slice da data.length dc) := heap_cell f2 rfl
  have hww : w.heap.size ≤ w1.heap.size := h.b.size
  have HWW := Lib.hid hww
  have HP1 := Lib.hid (And.intro f1 (And.intro f2 hpl))
  clear hba hbb hsz hb0 f1 f2 hit hv hvS h hk hd hF hpS hX h7 hww
  by_cases hal : allowB n R id K M B l N = true
  · rw [hal] at cA
    have HAL := Lib.hid hal
    clear hal
    go_enter Tryz.func11, Tryz.ntmps11
    go_wp2_with (fail)
    rw [show (w1.alloc (.cells #[.int .i64 K, .int .i64 M, .int .i64 B] 23)).alloc (.cells #[.int .i64 N, .slice da data.length dc] 42) = W0 from hW0.symm]
    clear hW0
    refine cA.mono ?_
    rintro e w2 ⟨rfl, b2⟩
    have P2 : Hid (∀ W, Below w2.heap.size w2 W → W.heap[p]? = some (.cells #[.int .i64 K, .int .i64 M, .int .i64 B] 23 (0, 0)) ∧ W.heap[p + 1]? = some (.cells #[.int .i64 N, .slice da data.length dc] 42 (0, 0))) := Lib.hid fun W hW => by
      have hb := b2.trans (hW.mono b2.size)
      exact ⟨(hb.block p (by omega)).trans HP1.out.1, (hb.block (p + 1) hpl).trans HP1.out.2.1⟩
    have H2 := Lib.hid (HB0.out.trans (b2.mono HB0.out.size))
    have hp2 := Lib.hid (Nat.lt_of_lt_of_le hpl b2.size)
    have e0 : w2.cell? ⟨p, 0, none⟩ = some (.int .i64 K) := heap_cell (P2.out w2 (Below.refl _ _)).1 rfl
    have e1 : w2.cell? ⟨p + 1, 1, none⟩ = some (.slice da data.length dc) := heap_cell (P2.out w2 (Below.refl _ _)).2 rfl
    have HP := Lib.hid hp
    clear cA c0 c1 c2 d0 d1 b2 hpl hp
    by_cases hlen : (data.length : Int) = K
    · have t1 : ((data.length : Int) != K) = false := by rw [bne_eq_false_iff_eq]; exact hlen
      have HL := Lib.hid hlen
      clear hlen
      go_wp2_with (fail)
      clear e0 e1 t1
      go_loopw [10, 11, 13] (fun _ _ t wr => ∃ i : Nat, i ≤ data.length ∧ t = .int .i64 (i : Int) ∧ Hid (∀ j (hj : j < data.length), j < i → data[j].size = 120) ∧ Below w2.heap.size w2 wr) (fun _ _ t _ => data.length - (RowKit.intOf t).toNat)
      case atStart => exact ⟨0, Nat.zero_le _, rfl, Lib.hid fun j _ hj => absurd hj (Nat.not_lt_zero _), Below.refl _ _⟩
      case round =>
        obtain ⟨i, hi, rfl, hgood, hB⟩ := hrel
        rename World => wr
        have P3 := P2.out wr hB
        have e1 : wr.cell? ⟨p + 1, 1, none⟩ = some (.slice da data.length dc) := heap_cell P3.2 rfl
        by_cases hlt : i < data.length
        · have y1 : (i : Int) < (data.length : Int) := by omega
          have hrd := HD.out.below (H2.out.trans (hB.mono H2.out.size))
          obtain ⟨da', dc', hv', hit⟩ := Reads.items hrd
          obtain ⟨rfl, rfl⟩ : da = da' ∧ dc = dc' := by injection hv' with z1 z2 z3; exact ⟨z1, z3⟩
          obtain ⟨cb, co, rfl, _, hcell⟩ := hit i hlt
          obtain ⟨s, hs⟩ : ∃ s, data[i] = s := ⟨_, rfl⟩
          rw [hs] at hcell
          have HBw := Lib.hid hB
          clear hrd hit hv' hB P3
          by_cases h120 : s.size = 120
          · have t1 : ((s.size : Int) != 120) = false := by rw [h120]; rfl
            have hg2 : Hid (∀ j (hj : j < data.length), j < i + 1 → data[j].size = 120) := Lib.hid fun j hj hji => by
              rcases Nat.lt_succ_iff_lt_or_eq.1 hji with h3 | rfl
              · exact hgood.out j hj h3
              · rw [hs]; exact h120
            clear hs h120 hgood
            go_wp2_with (fail)
            go_roundw
            case rel => exact ⟨i + 1, by omega, by go_num, hg2, HBw.out⟩
            case measure => simp [RowKit.intOf]; omega
          · have t1 : ((s.size : Int) != 120) = true := by rw [bne_iff_ne]; omega
            have hX2 : Hid (X = (R, [], 110)) := Lib.hid (by
              have hb : dataB K data = false := dataB_bad hlt (by rw [hs]; exact h120)
              have he : encSE K M data = 110 := by unfold encSE; rw [if_neg (by rw [hb]; decide)]
              rw [← HX.out]; unfold stW; rw [if_pos HAL.out, if_neg (by rw [he]; decide), he])
            have hfin := Lib.hid (kedoes_no HH.out (H2.out.trans (HBw.out.mono H2.out.size)) 110)
            clear hs h120 hgood
            go_wp2_with (fail)
            go_ret2
            rw [hX2.out]
            exact hfin.out
        · obtain rfl : i = data.length := by omega
          have y1 : ¬ ((data.length : Int) < (data.length : Int)) := by omega
          have HB3 : Hid (dataB K data = true) := Lib.hid (by
            unfold dataB
            rw [decide_eq_true HL.out, Bool.true_and, List.all_eq_true]
            intro s hs
            obtain ⟨j, hj, e⟩ := List.getElem_of_mem hs
            rw [← e]; exact decide_eq_true (hgood.out j hj hj))
          have hw3 := H2.out.trans (hB.mono H2.out.size)
          have HSH0 : Hid (encSL K M data = data ++ encL data M ∧ (data ++ encL data M).length = n ∧ ∀ j, j < n → ((data ++ encL data M).getD j ⟨#[]⟩).size = 120) := Lib.hid (by
            obtain ⟨hg, hn, _⟩ := allow_facts HAL.out
            obtain ⟨k1, m1, _⟩ := k_cases hg
            obtain ⟨kk, rfl⟩ := Int.eq_ofNat_of_zero_le (show 0 ≤ K by omega)
            obtain ⟨mm, rfl⟩ := Int.eq_ofNat_of_zero_le (show 0 ≤ M by omega)
            obtain ⟨s1, s2, s3⟩ := enc_shards hg HB3.out
            have es : encSL (kk : Int) (mm : Int) data = data ++ encL data (mm : Int) := by unfold encSL; rw [if_pos HB3.out]
            rw [slots_eq hg] at hn
            refine ⟨es, ?_, fun j hj => ?_⟩
            · rw [← es, s2, s3.l]; omega
            · rw [← es, s2]; exact s3.s j (by omega))
          have cE := rencode_any (.slice da data.length dc) data M wr (HD.out.below hw3) HFD.out
          have f1 : wr.cell? ⟨p, 1, none⟩ = some (.int .i64 M) := heap_cell P3.1 rfl
          have H3 := Lib.hid hw3
          have HBw := Lib.hid hB
          clear hgood hB hw3 P3 hlt hi
          go_wp2_with (fail)
          refine cE.mono ?_
          rintro e w3 ⟨vp, rfl, o3, b3⟩
          have hw4 := H3.out.trans (b3.mono H3.out.size)
          obtain ⟨v4, w4, hap, o4, b4⟩ := copy_tx (HD.out.below hw4) hdl
          have hel : (encL data M).length ≤ 1000 := by have e := HSH0.out.2.1; rw [List.length_append] at e; have := HSL.out.2; omega
          obtain ⟨v5, w5, hap2, o5, b5⟩ := push_tx o4 (o3.reads.below b4) b4.size (by have e := HSH0.out.2.1; rw [List.length_append] at e; have := HSL.out.2; omega)
          have b35 := b4.trans (b5.mono (Nat.le_refl _))
          have b25 := HBw.out.trans ((b3.trans (b35.mono b3.size)).mono HBw.out.size)
          have hw5 := hw4.trans (b35.mono hw4.size)
          have P5 := Lib.hid (fun W hW => P2.out W (b25.trans (Below.mono hW b25.size)))
          have e2 : w3.cell? ⟨p + 1, 1, none⟩ = some (.slice da data.length dc) := heap_cell (P2.out w3 (HBw.out.trans (b3.mono HBw.out.size))).2 rfl
          have H5 := Lib.hid hw5
          have O5 := Lib.hid o5
          have HS3 := Lib.hid (show w1.heap.size ≤ w3.heap.size from hw4.size)
          clear cE f1 e1 o3 b3 hw4 o4 b4 b5 b35 b25 hw5 o5 hel HBw H3
          go_wp2_with (at_builtin; first | refine wpList_append_run (o := ⟨some 59, _, _, _, _, _⟩) hap _ _ rfl rfl rfl rfl rfl ?_ | refine wpList_append_run (o := ⟨some 61, _, _, _, _, _⟩) hap2 _ _ rfl rfl rfl rfl rfl ?_)
          obtain ⟨sh, hsh⟩ : ∃ sh, data ++ encL data M = sh := ⟨_, rfl⟩
          rw [hsh] at HSH0
          have hSH := HSH0
          have hX3 : Hid (X = ea (wr1 n id K M B N sh) R [] l) := Lib.hid (by
            have he : encSE K M data = 0 := by
              obtain ⟨hg, hn, _⟩ := allow_facts HAL.out
              obtain ⟨k1, m1, _⟩ := k_cases hg
              obtain ⟨kk, rfl⟩ := Int.eq_ofNat_of_zero_le (show 0 ≤ K by omega)
              obtain ⟨mm, rfl⟩ := Int.eq_ofNat_of_zero_le (show 0 ≤ M by omega)
              exact (enc_shards hg HB3.out).1
            rw [← HX.out]; unfold stW; rw [if_pos HAL.out, if_pos he, hSH.out.1])
          rw [hsh] at O5
          have HA5 := Lib.hid (HH.out.after H5.out)
          have HN : Hid (KOwn w S w5 k n R 3 (.slice none 0 0) [] w5) := Lib.hid (KOwn.nil (KNow.start HA5.out) 3)
          have HT2 := Lib.hid (HIT.out w5 H5.out)
          have HW5 := Lib.hid (show w.heap.size ≤ w5.heap.size from Nat.le_trans HWW.out H5.out.size)
          have ALI : Hid (∀ j, j < n → ∃ ab ao ac, v5 = .slice (some ⟨ab, ao, none⟩) n ac ∧ ∀ R' v xs wr, KOwn w S w5 k n R' 3 v xs wr → wr.cell? ⟨ab, ao + j, none⟩ = some (.string (sh.getD j ⟨#[]⟩))) := Lib.hid fun j hj => by
            rcases O5.out.reads with ⟨_, e0⟩ | ⟨ab, ao, ac, e, hlt, hcell⟩
            · have := hSH.out.2.1
              have e1 : sh = [] := by simpa [tx] using e0
              rw [e1] at this; simp at this; omega
            · have hln : (tx sh).length = n := by rw [show (tx sh).length = sh.length from List.length_map ..]; exact hSH.out.2.1
              rw [hln] at e
              refine ⟨ab, ao, ac, e, fun R' v xs wr hr => ?_⟩
              have hnS : ¬ S ab := fun z => by
                have h1 := HPS.out ab z
                have h2 := (O5.out.o.lt ab (by rw [e]; rfl)).1
                have := HS3.out
                have := HP.out
                omega
              rw [cell_of_heap (hr.keep hlt hnS) (ao + j), hcell j (by rw [hln]; exact hj)]
              have := hSH.out.2.1
              simp [tx, List.getD_eq_getElem?_getD, show j < sh.length by omega]
          have GEO : Hid (∀ R' v xs wr, KOwn w S w5 k n R' 3 v xs wr → wr.heap[p]? = some (.cells #[.int .i64 K, .int .i64 M, .int .i64 B] 23 (0, 0)) ∧ wr.heap[p + 1]? = some (.cells #[.int .i64 N, .slice da data.length dc] 42 (0, 0))) := Lib.hid fun R' v xs wr hr => by
            obtain ⟨g1, g2⟩ := P5.out w5 (Below.refl _ _)
            have l1 := (Array.getElem?_eq_some_iff.1 g1).1
            have l2 := (Array.getElem?_eq_some_iff.1 g2).1
            exact ⟨(hr.keep l1 fun z => by have := HPS.out p z; omega).trans g1, (hr.keep l2 fun z => by have := HPS.out (p + 1) z; omega).trans g2⟩
          clear hsh e2 hap hap2
          go_loopw [10, 11, 17, 18, 19] (fun _ _ u t _ wr => ∃ (i : Nat) (R' : Rk) (acc : List Int), i ≤ l.length ∧ t = .int .i64 (i : Int) ∧ X = ea (wr1 n id K M B N sh) R' acc (l.drop i) ∧ szK R' = szK R ∧ ROk n R' (c + i) ∧ acc.length ≤ i ∧ KOwn w S w5 k n R' 3 u (acc.map (.int .i64)) wr) (fun _ _ _ t _ _ => l.length - (RowKit.intOf t).toNat)
          case atStart => exact ⟨0, R, [], Nat.zero_le _, rfl, hX3.out, rfl, HK.out, Nat.le_refl _, HN.out⟩
          case round =>
            clear hX3 HN HK HH HX
            obtain ⟨i, R', acc, hi, rfl, hX, hszk, hk, hal, ho⟩ := hrel
            rename World => wr
            by_cases hlt : i < l.length
            · have y1 : (i : Int) < (l.length : Int) := by omega
              obtain ⟨cb, co, rfl, hcell⟩ := HT2.out i hlt
              have hxl := List.getElem_mem hlt
              rw [ea_drop (wr1 n id K M B N sh) R' acc hlt] at hX
              obtain ⟨x, hx⟩ : ∃ x, l[i] = x := ⟨_, rfl⟩
              rw [hx] at hX hxl
              have HC3 : Hid (∀ R' v xs wr, KOwn w S w5 k n R' 3 v xs wr → wr.cell? ⟨cb, co + i, none⟩ = some (.int .i64 x)) := Lib.hid fun R' v xs wr hr => by rw [hcell R' v xs wr hr, hx]
              obtain ⟨j, hj, hjn⟩ := index_nat HAL.out hxl
              obtain ⟨ab, ao, ac, rfl, hacell⟩ := ALI.out j hjn
              have hslen : SLen n R' := by
                obtain ⟨S', _, hA, _⟩ := ho
                exact hA.slen.1
              have hps : (sh.getD j ⟨#[]⟩).size ≤ 120 := Nat.le_of_eq (hSH.out.2.2 j hjn)
              obtain ⟨st1, herr⟩ := wr1_step (sh := sh) (R := R') HAL.out hszk hslen HSL.out.2 hxl (by rw [hj, Int.toNat_natCast]; exact hps)
              rw [hj, Int.toNat_natCast] at st1 herr
              have hk2 := wr1_ok (id := id) (K := K) (M := M) (B := B) (N := N) (sh := sh) R' x _ hk
              rw [st1] at hX hk2
              have hsz : (sealL id x (gSector K M B N) (sh.getD j ⟨#[]⟩)).size ≤ 140737488355328 := by have := sealL_size id x (gSector K M B N) (sh.getD j ⟨#[]⟩); omega
              have CD : Hid (∀ W u, KOwn w S w5 k n R' 3 u (acc.map (.int .i64)) W → Calls Tryz.prog 50 #[.pointer (some ⟨k, 0, none⟩), .int .i64 id, .int .i64 x, .int .i64 (gSector K M B N), .string (sh.getD j ⟨#[]⟩)] W fun e w' => e = .returned (.int .i64 (wrRE n R' x (gSector K M B N) (sealL id x (gSector K M B N) (sh.getD j ⟨#[]⟩)))) ∧ KOwn w S w5 k n (wrR n R' x (gSector K M B N) (sealL id x (gSector K M B N) (sh.getD j ⟨#[]⟩))) 3 u (acc.map (.int .i64)) w') := Lib.hid fun W u hW => hW.calls (fun S' hA _ => kputs_any hA (hk.le (by omega)) id x (gSector K M B N) _ (by omega) hsz)
              have cIx : Hid (∀ W, Calls Tryz.prog 51 #[.agg #[.int .i64 K, .int .i64 M, .int .i64 B], .int .i64 N, .int .i64 x] W fun e w' => e = .returned (.int .i64 (j : Int)) ∧ Below W.heap.size W w') := Lib.hid fun W => by rw [← hj]; exact rindex_any K M B N x W
              have cSe : Hid (∀ W, Calls Tryz.prog 22 #[.agg #[.int .i64 K, .int .i64 M, .int .i64 B], .int .i64 N] W fun e w' => e = .returned (.int .i64 (gSector K M B N)) ∧ Below W.heap.size W w') := Lib.hid fun W => rsector_any K M B N W
              have HS : Hid (∀ R' v xs W, KOwn w S w5 k n R' 3 v xs W → (W.heap[p]? = some (.cells #[.int .i64 K, .int .i64 M, .int .i64 B] 23 (0, 0)) ∧ W.heap[p + 1]? = some (.cells #[.int .i64 N, .slice da data.length dc] 42 (0, 0)) ∧ W.cell? ⟨cb, co + i, none⟩ = some (.int .i64 x) ∧ W.cell? ⟨ab, ao + j, none⟩ = some (.string (sh.getD j ⟨#[]⟩)))) := Lib.hid fun R' v xs W hW => ⟨(GEO.out R' v xs W hW).1, (GEO.out R' v xs W hW).2, HC3.out R' v xs W hW, hacell R' v xs W hW⟩
              have Hk2 : Hid (ROk n (wrR n R' x (gSector K M B N) (sealL id x (gSector K M B N) (sh.getD j ⟨#[]⟩))) (c + i + 1)) := Lib.hid hk2
              obtain ⟨F, hF⟩ : ∃ F, wr1 n id K M B N sh = F := ⟨_, rfl⟩
              rw [hF] at hX
              have HF := Lib.hid hF
              have hXe : Hid (X = if wrRE n R' x (gSector K M B N) (sealL id x (gSector K M B N) (sh.getD j ⟨#[]⟩)) = 0 then ea F (wrR n R' x (gSector K M B N) (sealL id x (gSector K M B N) (sh.getD j ⟨#[]⟩))) acc (l.drop (i + 1)) else if wrRE n R' x (gSector K M B N) (sealL id x (gSector K M B N) (sh.getD j ⟨#[]⟩)) = 80 then ea F (wrR n R' x (gSector K M B N) (sealL id x (gSector K M B N) (sh.getD j ⟨#[]⟩))) (acc ++ [x]) (l.drop (i + 1)) else (wrR n R' x (gSector K M B N) (sealL id x (gSector K M B N) (sh.getD j ⟨#[]⟩)), [], wrRE n R' x (gSector K M B N) (sealL id x (gSector K M B N) (sh.getD j ⟨#[]⟩)))) := Lib.hid hX
              have HO := Lib.hid ho
              have hsz2 := szK_wr (n := n) (R := R') (s := x) (a := gSector K M B N) (t := sealL id x (gSector K M B N) (sh.getD j ⟨#[]⟩))
              rw [hszk] at hsz2
              have HSZ := Lib.hid hsz2
              generalize wrRE n R' x (gSector K M B N) (sealL id x (gSector K M B N) (sh.getD j ⟨#[]⟩)) = e2 at *
              generalize wrR n R' x (gSector K M B N) (sealL id x (gSector K M B N) (sh.getD j ⟨#[]⟩)) = R2 at *
              generalize gSector K M B N = at_ at *
              generalize sh.getD j ⟨#[]⟩ = pl at *
              clear hF hsz2 hszk hX hcell hacell hk hk2 hx hxl hslen hps st1 hsz hj ho
              go_upto_region 17 with (fail)
              refine wp_region_held_drew (S := fun W => W.heap[p]? = some (.cells #[.int .i64 K, .int .i64 M, .int .i64 B] 23 (0, 0)) ∧ W.heap[p + 1]? = some (.cells #[.int .i64 N, .slice da data.length dc] 42 (0, 0)) ∧ W.cell? ⟨cb, co + i, none⟩ = some (.int .i64 x) ∧ W.cell? ⟨ab, ao + j, none⟩ = some (.string pl)) (by kernel_rfl) (HS.out _ _ _ _ (HO.out.after (Below.drewZ wr))) (fun hHeld => ?_)
              refine wpAnyH_takeD (i := 0) (some 68) rfl (by kernel_rfl) (by kernel_rfl) (by kernel_rfl) rfl (fun _ _ _ h => h) (Or.inl ⟨by rfl, by rintro w ⟨hs1, hs2, hs3, hs4⟩; first | rfl | (go_simp; done) | (go_simp; rfl)⟩) (by assumption) ?_
              simp only [Act.put, List.setIfInBounds_toArray, List.set_cons_zero, List.set_cons_succ]
              refine wpAnyH_takeD (i := 1) (some 69) rfl (by kernel_rfl) (by kernel_rfl) (by kernel_rfl) rfl (fun _ _ _ h => h) (Or.inl ⟨by rfl, by rintro w ⟨hs1, hs2, hs3, hs4⟩; first | rfl | (go_simp; done) | (go_simp; rfl)⟩) (by assumption) ?_
              simp only [Act.put, List.setIfInBounds_toArray, List.set_cons_zero, List.set_cons_succ]
              refine wpAnyH_takeD (i := 2) (some 70) rfl (by kernel_rfl) (by kernel_rfl) (by kernel_rfl) rfl (fun _ _ _ h => h) (Or.inl ⟨by rfl, by rintro w ⟨hs1, hs2, hs3, hs4⟩; first | rfl | (go_simp; done) | (go_simp; rfl)⟩) (by assumption) ?_
              simp only [Act.put, List.setIfInBounds_toArray, List.set_cons_zero, List.set_cons_succ]
              refine wpAnyH_takeD (i := 3) (some 71) rfl (by kernel_rfl) (by kernel_rfl) (by kernel_rfl) rfl (fun _ _ _ h => h) (Or.inl ⟨by rfl, by rintro w ⟨hs1, hs2, hs3, hs4⟩; first | rfl | (go_simp; done) | (go_simp; rfl)⟩) (by assumption) ?_
              simp only [Act.put, List.setIfInBounds_toArray, List.set_cons_zero, List.set_cons_succ]
              refine wpAnyH_takeD (i := 4) (v := .pointer (some ⟨cb, co + i, none⟩)) (some 72) rfl (by kernel_rfl) (by kernel_rfl) (by kernel_rfl) rfl (fun _ _ _ h => h) (yieldsIf_index_run (by rfl) _ _ rfl rfl rfl (fun W => slc_at Tryz.underlying26 (fun W => by kernel_rfl) cb co _ _ i hlt W)) (by assumption) ?_
              simp only [Act.put, List.setIfInBounds_toArray, List.set_cons_zero, List.set_cons_succ]
              refine wpAnyH_takeD (i := 5) (v := .int .i64 x) (some 73) rfl (by kernel_rfl) (by kernel_rfl) (by kernel_rfl) rfl (fun _ _ _ h => h) (yieldsIf_load_run (by rfl) _ rfl rfl (fun _ hs => cell_load (fun W => by kernel_rfl) hs.2.2.1)) (by assumption) ?_
              simp only [Act.put, List.setIfInBounds_toArray, List.set_cons_zero, List.set_cons_succ]
              refine wpAnyH_takeD (i := 6) (v := .agg #[.int .i64 K, .int .i64 M, .int .i64 B]) (some 74) rfl (by kernel_rfl) (by kernel_rfl) (by kernel_rfl) rfl (fun _ _ _ h => h) (yieldsIf_load_run (by rfl) _ rfl rfl (fun _ hs => geo_load hs.1)) (by assumption) ?_
              simp only [Act.put, List.setIfInBounds_toArray, List.set_cons_zero, List.set_cons_succ]
              refine wpAnyH_takeD (i := 7) (v := .pointer (some ⟨p + 1, 0, none⟩)) (some 75) rfl (by kernel_rfl) (by kernel_rfl) (by kernel_rfl) rfl (fun _ _ _ h => h) (Or.inl ⟨by rfl, by rintro w ⟨hs1, hs2, hs3, hs4⟩; first | rfl | (go_simp; done) | (go_simp; rfl)⟩) (by assumption) ?_
              simp only [Act.put, List.setIfInBounds_toArray, List.set_cons_zero, List.set_cons_succ]
              refine wpAnyH_takeD (i := 8) (v := .int .i64 N) (some 76) rfl (by kernel_rfl) (by kernel_rfl) (by kernel_rfl) rfl (fun _ _ _ h => h) (yieldsIf_load_run (by rfl) _ rfl rfl (fun _ hs => cell_load (fun W => by kernel_rfl) (heap_cell hs.2.1 rfl))) (by assumption) ?_
              simp only [Act.put, List.setIfInBounds_toArray, List.set_cons_zero, List.set_cons_succ]
              refine wpAnyH_takeD (i := 10) (some 78) rfl (by kernel_rfl) (by kernel_rfl) (by kernel_rfl) rfl (fun _ _ _ h => h) (Or.inl ⟨by rfl, by rintro w ⟨hs1, hs2, hs3, hs4⟩; first | rfl | (go_simp; done) | (go_simp; rfl)⟩) (by assumption) ?_
              simp only [Act.put, List.setIfInBounds_toArray, List.set_cons_zero, List.set_cons_succ]
              refine wpAnyH_takeD (i := 11) (v := .agg #[.int .i64 K, .int .i64 M, .int .i64 B]) (some 79) rfl (by kernel_rfl) (by kernel_rfl) (by kernel_rfl) rfl (fun _ _ _ h => h) (yieldsIf_load_run (by rfl) _ rfl rfl (fun _ hs => geo_load hs.1)) (by assumption) ?_
              simp only [Act.put, List.setIfInBounds_toArray, List.set_cons_zero, List.set_cons_succ]
              refine wpAnyH_takeD (i := 12) (v := .pointer (some ⟨p + 1, 0, none⟩)) (some 80) rfl (by kernel_rfl) (by kernel_rfl) (by kernel_rfl) rfl (fun _ _ _ h => h) (Or.inl ⟨by rfl, by rintro w ⟨hs1, hs2, hs3, hs4⟩; first | rfl | (go_simp; done) | (go_simp; rfl)⟩) (by assumption) ?_
              simp only [Act.put, List.setIfInBounds_toArray, List.set_cons_zero, List.set_cons_succ]
              refine wpAnyH_takeD (i := 13) (v := .int .i64 N) (some 81) rfl (by kernel_rfl) (by kernel_rfl) (by kernel_rfl) rfl (fun _ _ _ h => h) (yieldsIf_load_run (by rfl) _ rfl rfl (fun _ hs => cell_load (fun W => by kernel_rfl) (heap_cell hs.2.1 rfl))) (by assumption) ?_
              simp only [Act.put, List.setIfInBounds_toArray, List.set_cons_zero, List.set_cons_succ]
              refine wpAnyH_takeD (i := 14) (some 82) rfl (by kernel_rfl) (by kernel_rfl) (by kernel_rfl) rfl (fun _ _ _ h => h) (Or.inl ⟨by rfl, by rintro w ⟨hs1, hs2, hs3, hs4⟩; first | rfl | (go_simp; done) | (go_simp; rfl)⟩) (by assumption) ?_
              simp only [Act.put, List.setIfInBounds_toArray, List.set_cons_zero, List.set_cons_succ]
              refine wpAnyH_takeD (i := 15) (some 83) rfl (by kernel_rfl) (by kernel_rfl) (by kernel_rfl) rfl (fun _ _ _ h => h) (Or.inl ⟨by rfl, by rintro w ⟨hs1, hs2, hs3, hs4⟩; first | rfl | (go_simp; done) | (go_simp; rfl)⟩) (by assumption) ?_
              simp only [Act.put, List.setIfInBounds_toArray, List.set_cons_zero, List.set_cons_succ]
              refine wpAnyH_takeD (i := 16) (v := .pointer (some ⟨cb, co + i, none⟩)) (some 84) rfl (by kernel_rfl) (by kernel_rfl) (by kernel_rfl) rfl (fun _ _ _ h => h) (yieldsIf_index_run (by rfl) _ _ rfl rfl rfl (fun W => slc_at Tryz.underlying26 (fun W => by kernel_rfl) cb co _ _ i hlt W)) (by assumption) ?_
              simp only [Act.put, List.setIfInBounds_toArray, List.set_cons_zero, List.set_cons_succ]
              refine wpAnyH_takeD (i := 17) (v := .int .i64 x) (some 85) rfl (by kernel_rfl) (by kernel_rfl) (by kernel_rfl) rfl (fun _ _ _ h => h) (yieldsIf_load_run (by rfl) _ rfl rfl (fun _ hs => cell_load (fun W => by kernel_rfl) hs.2.2.1)) (by assumption) ?_
              simp only [Act.put, List.setIfInBounds_toArray, List.set_cons_zero, List.set_cons_succ]
              refine wpAnyH_ready (rs := [9]) (by kernel_rfl) (by simp) ?_
              refine AllReadyH.cons rfl (fun K hK => ?_) AllReadyH.nil
              go_simp
              refine (cSe.out wr.drew).mono ?_
              rintro e wa ⟨rfl, ba⟩
              have ha := (HO.out.after (Below.drewZ wr)).after ba
              refine hK.out _ _ (HS.out _ _ _ _ ha) (fun hHeld => ?_)
              clear hK
              try simp only [Act.put, List.setIfInBounds_toArray, List.set_cons_zero, List.set_cons_succ]
              refine wpAnyH_ready (rs := [18]) (by kernel_rfl) (by simp) ?_
              refine AllReadyH.cons rfl (fun K hK => ?_) AllReadyH.nil
              go_simp
              refine (cIx.out wa).mono ?_
              rintro e wb ⟨rfl, bb⟩
              have hb := ha.after bb
              refine hK.out _ _ (HS.out _ _ _ _ hb) (fun hHeld => ?_)
              clear hK
              try simp only [Act.put, List.setIfInBounds_toArray, List.set_cons_zero, List.set_cons_succ]
              refine wpAnyH_takeD (i := 19) (v := .pointer (some ⟨ab, ao + j, none⟩)) (some 87) rfl (by kernel_rfl) (by kernel_rfl) (by kernel_rfl) rfl (fun _ _ _ h => h) (yieldsIf_index_run (by rfl) _ _ rfl rfl rfl (fun W => slc_at Tryz.underlying39 (fun W => by kernel_rfl) ab ao _ _ j hjn W)) (by assumption) ?_
              simp only [Act.put, List.setIfInBounds_toArray, List.set_cons_zero, List.set_cons_succ]
              refine wpAnyH_takeD (i := 20) (v := .string pl) (some 88) rfl (by kernel_rfl) (by kernel_rfl) (by kernel_rfl) rfl (fun _ _ _ h => h) (yieldsIf_load_run (by rfl) _ rfl rfl (fun _ hs => cell_load (fun W => by kernel_rfl) hs.2.2.2)) (by assumption) ?_
              simp only [Act.put, List.setIfInBounds_toArray, List.set_cons_zero, List.set_cons_succ]
              refine wpAnyH_ready (rs := [21]) (by kernel_rfl) (by simp) ?_
              refine AllReadyH.cons rfl (fun K hK => ?_) AllReadyH.nil
              go_simp
              refine (CD.out wb _ hb).mono ?_
              rintro e w3 ⟨rfl, h3⟩
              refine hK.out _ _ (HS.out _ _ _ _ h3) (fun hHeld => ?_)
              clear hK
              try simp only [Act.put, List.setIfInBounds_toArray, List.set_cons_zero, List.set_cons_succ]
              refine wpAnyH_takeD (i := 22) (v := .int .i64 e2) (some 19) rfl (by kernel_rfl) (by kernel_rfl) (by kernel_rfl) rfl (fun _ _ _ h => h) (Or.inl ⟨by rfl, by rintro w ⟨hs1, hs2, hs3, hs4⟩; first | rfl | (go_simp; done) | (go_simp; rfl)⟩) (by assumption) ?_
              simp only [Act.put, List.setIfInBounds_toArray, List.set_cons_zero, List.set_cons_succ]
              refine wpAnyH_done (by kernel_rfl) ?_ _
              have hc1 := True.intro
              have cd := True.intro
              clear hHeld
              rcases herr with rfl | rfl | rfl
              · have hX2 : Hid (X = ea F R2 acc (l.drop (i + 1))) := Lib.hid (by rw [hXe.out, if_pos rfl])
                clear hXe
                skip
                have H3 := Lib.hid h3
                clear h3 cd hc1
                go_wp2_with (fail)
                go_roundw
                case rel => exact ⟨i + 1, R2, acc, by omega, by go_num, (by rw [HF.out]; exact hX2.out), HSZ.out, by rw [← Nat.add_assoc]; exact Hk2.out, by omega, H3.out⟩
                case measure => simp [RowKit.intOf]; omega
              · have hX2 : Hid (X = ea F R2 (acc ++ [x]) (l.drop (i + 1))) := Lib.hid (by rw [hXe.out, if_neg (by decide), if_pos rfl])
                clear hXe
                skip
                have hc3 := HC3.out _ _ _ _ h3
                obtain ⟨v4, w4, hap, h4⟩ := h3.push (P := Tryz.prog) (T := 26) Tryz.underlying26 q1 q2 q3 q4 rfl HW5.out (.int .i64 x) rfl (by rw [List.length_map]; omega) (by rw [List.length_map]; omega)
                have H4 := Lib.hid h4
                clear h3 h4 cd hc1
                go_wp2_with (at_builtin; refine wpList_append_run hap _ _ rfl rfl rfl rfl rfl ?_)
                go_roundw
                case rel => exact ⟨i + 1, R2, acc ++ [x], by omega, by go_num, (by rw [HF.out]; exact hX2.out), HSZ.out, by rw [← Nat.add_assoc]; exact Hk2.out, by rw [List.length_append]; simp; omega, by rw [List.map_append]; exact H4.out⟩
                case measure => simp [RowKit.intOf]; omega
              · have hX2 : Hid (X = (R2, [], 90)) := Lib.hid (by rw [hXe.out, if_neg (by decide), if_neg (by decide)])
                clear hXe
                skip
                have H3 := Lib.hid (KOwn.nil h3.now 3)
                clear h3 cd hc1
                go_wp2_with (fail)
                go_ret2
                obtain rfl := hX2.out
                exact KEDoes.from H5.out ⟨_, rfl, H3.out⟩
            · obtain rfl : i = l.length := by omega
              have y1 : ¬ ((l.length : Int) < (l.length : Int)) := by omega
              rw [List.drop_length] at hX
              have hX2 : Hid (X = (R', acc, 0)) := Lib.hid hX
              have H3 := Lib.hid ho
              clear hX ho hk
              go_wp2_with (fail)
              go_ret2
              obtain rfl := hX2.out
              exact KEDoes.from H5.out ⟨_, rfl, H3.out⟩
    · have hX2 : Hid (X = (R, [], 110)) := Lib.hid (by
        have hb : dataB K data = false := dataB_len hlen
        have he : encSE K M data = 110 := by unfold encSE; rw [if_neg (by rw [hb]; decide)]
        rw [← HX.out]; unfold stW; rw [if_pos HAL.out, if_neg (by rw [he]; decide), he])
      have t1 : ((data.length : Int) != K) = true := by rw [bne_iff_ne]; exact hlen
      have hfin := Lib.hid (kedoes_no HH.out H2.out 110)
      clear hlen
      go_wp2_with (fail)
      go_ret2
      rw [hX2.out]
      exact hfin.out
  · have hX2 : Hid (X = (R, [], 1)) := Lib.hid (by rw [← HX.out]; unfold stW; rw [if_neg hal])
    have hal' : allowB n R id K M B l N = false := by simpa using hal
    rw [hal'] at cA
    clear hal hal'
    go_enter Tryz.func11, Tryz.ntmps11
    go_wp2_with (fail)
    rw [show (w1.alloc (.cells #[.int .i64 K, .int .i64 M, .int .i64 B] 23)).alloc (.cells #[.int .i64 N, .slice da data.length dc] 42) = W0 from hW0.symm]
    clear hW0
    refine cA.mono ?_
    rintro e w2 ⟨rfl, b2⟩
    have hfin := Lib.hid (kedoes_no HH.out (HB0.out.trans (b2.mono HB0.out.size)) 1)
    clear cA b2 c0 c1 c2 d0 d1
    go_wp2_with (fail)
    go_ret2
    rw [hX2.out]
    exact hfin.out
end
end Go.Proofs.YtjgafpkpoppcbaaGreatDoor
