import Derived.Test.YtjgafpkpoppcbaaGreatDoorStrQ3
import Derived.Test.YtjgafpkpoppcbaaGreatDoorStrTwo
import Derived.Test.YtjgafpkpoppcbaaGreatDoorLrs
set_option linter.unusedVariables false
set_option linter.unusedSimpArgs false
namespace Go.Proofs.YtjgafpkpoppcbaaGreatDoor
open Go.RowKit
set_option maxRecDepth 100000
theorem RdIn.drewB {W : Nat} {n g1 g2 : Nat} {sh : List ByteArray} {hv : List Bool} {bad : List Int} {vb : Value} {wr : World} (x : RdIn W n g1 g2 sh hv bad vb wr) : g1 < wr.heap.size ∧ g2 < wr.heap.size := ⟨x.s.lt.2, x.h.lt.2⟩
section
variable {w w1 : World} {S : Nat → Prop} {k n : Nat} {R : Rk}
set_option maxHeartbeats 8000000 in
theorem kstr_any (h : KA w S w1 k n R) (hk : ROk n R 1000000000000) (id Kg M B N : Int) (vl : Value) (l : List Int) (hv : Reads w1 vl (l.map (.int .i64))) (hl : l.length ≤ 1000000) :
    Calls Tryz.prog 27 #[.pointer (some ⟨k, 0, none⟩), .int .i64 id, .agg #[.int .i64 Kg, .int .i64 M, .int .i64 B], vl, .int .i64 N] w1 (RdDoes w1 (stR n R id Kg M B l N)) := by
  obtain ⟨p, hp⟩ : ∃ p, w1.heap.size = p := ⟨_, rfl⟩
  obtain ⟨W0, hW0⟩ : ∃ W0, W0 = w1.alloc (.cells #[.int .i64 Kg, .int .i64 M, .int .i64 B] 23) := ⟨_, rfl⟩
  have hb0 : Below w1.heap.size w1 W0 := by rw [hW0]; exact (Below.refl _ _).alloc (Nat.le_refl _) _
  have f1 : W0.heap[p]? = some (.cells #[.int .i64 Kg, .int .i64 M, .int .i64 B] 23 (0, 0)) := by rw [hW0, ← hp]; exact heap_alloc_new _ _
  have hpl : p < W0.heap.size := (Array.getElem?_eq_some_iff.1 f1).1
  have cA := kallow_any (h.after hb0) id Kg M B vl l (hv.below hb0) hl N
  obtain ⟨va, vc, rfl, hit⟩ := Reads.items hv
  have HH := Lib.hid h
  have HB0 := Lib.hid hb0
  have HF1 := Lib.hid f1
  have HIT : Hid (∀ W, Below w1.heap.size w1 W → ∀ i (hi : i < l.length), ∃ cb co, va = some ⟨cb, co, none⟩ ∧ W.cell? ⟨cb, co + i, none⟩ = some (.int .i64 l[i])) := Lib.hid fun W hW i hi => by
    obtain ⟨cb, co, e1, e2, e3⟩ := hit i hi
    exact ⟨cb, co, e1, (hW.cell (p := ⟨cb, co + i, none⟩) e2).trans e3⟩
  have CR : Hid (∀ W (x : Int), Below w1.heap.size w1 W → Calls Tryz.prog 72 #[.pointer (some ⟨k, 0, none⟩), .int .i64 id, .int .i64 x, .int .i64 (gSector Kg M B N)] W (TellsB W (srS n R id x (gSector Kg M B N)) (srB n R id x (gSector Kg M B N)))) := Lib.hid fun W x hW => kopens_any (h.after hW) hk id x (gSector Kg M B N)
  obtain ⟨X, hX⟩ : ∃ X, stR n R id Kg M B l N = X := ⟨_, rfl⟩
  rw [hX]
  have HX := Lib.hid hX
  have c0 : W0.cell? ⟨p, 0, none⟩ = some (.int .i64 Kg) := heap_cell f1 rfl
  have c1 : W0.cell? ⟨p, 1, none⟩ = some (.int .i64 M) := heap_cell f1 rfl
  have c2 : W0.cell? ⟨p, 2, none⟩ = some (.int .i64 B) := heap_cell f1 rfl
  clear hit hv h hk hX hb0 f1
  by_cases hal : allowB n R id Kg M B l N = true
  · rw [hal] at cA
    have HAL := Lib.hid hal
    have hsn : gSlots Kg M B = (n : Int) := (allow_facts hal).2.1.symm
    have cSl : Hid (∀ W, Calls Tryz.prog 38 #[.agg #[.int .i64 Kg, .int .i64 M, .int .i64 B]] W fun e w' => e = .returned (.int .i64 (n : Int)) ∧ Below W.heap.size W w') := Lib.hid fun W => by rw [← hsn]; exact rslots_any Kg M B W
    have hn7 := HH.out.slen.2
    have HN7 := Lib.hid hn7
    clear hal hsn
    go_enter Tryz.func27, Tryz.ntmps27
    go_wp2_with (fail)
    rw [show w1.alloc (.cells #[.int .i64 Kg, .int .i64 M, .int .i64 B] 23) = W0 from hW0.symm]
    clear hW0
    refine cA.mono ?_
    rintro e w2 ⟨rfl, b2⟩
    have H2 := Lib.hid (HB0.out.trans (b2.mono HB0.out.size))
    have P2 : Hid (∀ W, Below w2.heap.size w2 W → W.heap[p]? = some (.cells #[.int .i64 Kg, .int .i64 M, .int .i64 B] 23 (0, 0))) := Lib.hid fun W hW => ((b2.trans (hW.mono b2.size)).block p hpl).trans HF1.out
    have HP := Lib.hid hp
    have cO := kt_off (HH.out.after H2.out)
    have e0 : w2.cell? ⟨p, 0, none⟩ = some (.int .i64 Kg) := heap_cell (P2.out w2 (Below.refl _ _)) rfl
    have e1 : w2.cell? ⟨p, 1, none⟩ = some (.int .i64 M) := heap_cell (P2.out w2 (Below.refl _ _)) rfl
    have e2 : w2.cell? ⟨p, 2, none⟩ = some (.int .i64 B) := heap_cell (P2.out w2 (Below.refl _ _)) rfl
    clear cA c0 c1 c2 b2 hpl hp
    obtain ⟨off, hoff⟩ : ∃ b, R.off = b := ⟨_, rfl⟩
    rw [hoff] at cO
    cases off with
    | true =>
      have hX2 : Hid (X = ([], [], 90)) := Lib.hid (by rw [← HX.out]; unfold stR; rw [if_pos HAL.out, if_pos hoff])
      have hfin := Lib.hid (rdoes_no H2.out 90)
      clear hoff
      go_wp2_with (fail)
      refine cO.mono ?_
      rintro e w2' ⟨rfl, rfl⟩
      go_wp2_with (fail)
      go_ret3
      rw [hX2.out]
      exact hfin.out
    | false =>
      have HX1 : Hid (decE M (rdA n R id Kg M B N l).1 (rdA n R id Kg M B N l).2.1 = 0 → X = (decL M (rdA n R id Kg M B N l).1 (rdA n R id Kg M B N l).2.1, (rdA n R id Kg M B N l).2.2, 0)) := Lib.hid fun e => by rw [← HX.out]; unfold stR; rw [if_pos HAL.out, if_neg (by rw [hoff]; decide), if_pos e]
      have HX2 : Hid (decE M (rdA n R id Kg M B N l).1 (rdA n R id Kg M B N l).2.1 ≠ 0 → X = ([], (rdA n R id Kg M B N l).2.2, 130)) := Lib.hid fun e => by rw [← HX.out]; unfold stR; rw [if_pos HAL.out, if_neg (by rw [hoff]; decide), if_neg e]
      obtain ⟨Y, hY⟩ : ∃ Y, rdA n R id Kg M B N l = Y := ⟨_, rfl⟩
      rw [hY] at HX1 HX2
      have HY : Hid (Y = rdF n R id Kg M B N (List.replicate n ⟨#[]⟩) (List.replicate n false) [] l) := Lib.hid hY.symm
      clear hoff hY HX
      obtain ⟨i0, hi0, hz0, hz1, hz2⟩ := info_parts Tryz.infoS
      obtain ⟨i1, hi1, hy0, hy1, hy2⟩ := info_parts Tryz.infoBl
      obtain ⟨i3, q1, q2, q3, q4⟩ := info_parts Tryz.infoI
      go_wp2_with (fail)
      refine cO.mono ?_
      rintro e w2' ⟨rfl, rfl⟩
      clear cO
      go_wp2_with (fail)
      refine (cSl.out w2).mono ?_
      rintro e w3 ⟨rfl, b3⟩
      obtain ⟨wm, hm1, om1, bm1⟩ := Own.make_run (P := Tryz.prog) (T := 39) Tryz.underlying39 hi0 hz0 hz1 hz2 rfl w3 n (by omega) (by omega)
      obtain ⟨g1, hg1⟩ : ∃ g1, w3.heap.size = g1 := ⟨_, rfl⟩
      rw [hg1] at hm1 om1
      have b2m := b3.trans (bm1.mono b3.size)
      have PM := P2.out wm b2m
      have m0 : wm.cell? ⟨p, 0, none⟩ = some (.int .i64 Kg) := heap_cell PM rfl
      have m1 : wm.cell? ⟨p, 1, none⟩ = some (.int .i64 M) := heap_cell PM rfl
      have m2 : wm.cell? ⟨p, 2, none⟩ = some (.int .i64 B) := heap_cell PM rfl
      have OM1 := Lib.hid om1
      have B2M := Lib.hid b2m
      have HG1 := Lib.hid hg1
      have HGL := Lib.hid (show w2.heap.size ≤ g1 by have := b3.size; omega)
      clear om1 bm1 b2m PM b3 e0 e1 e2 hg1
      go_wp2_with (fail)
      refine (cSl.out wm).mono ?_
      rintro e w4 ⟨rfl, b4⟩
      obtain ⟨wn, hm2, om2, bm2⟩ := Own.make_run (P := Tryz.prog) (T := 89) Tryz.underlying89 hi1 hy0 hy1 hy2 rfl w4 n (by omega) (by omega)
      obtain ⟨g2, hg2⟩ : ∃ g2, w4.heap.size = g2 := ⟨_, rfl⟩
      rw [hg2] at hm2 om2
      have b2n := B2M.out.trans ((b4.trans (bm2.mono b4.size)).mono B2M.out.size)
      have hin : Hid (RdIn w2.heap.size n g1 g2 (List.replicate n ⟨#[]⟩) (List.replicate n false) [] (.slice none 0 0) wn) := Lib.hid ⟨by
        have o := OM1.out.after (b4.trans (bm2.mono b4.size))
        have := HG1.out
        simpa [tx] using o.down HGL.out, by
        have hs := B2M.out.size
        have hs4 := b4.size
        simpa [bv] using om2.down (by omega), Own.nil _ _ _, by have := OM1.out.lt.2; have := b4.size; omega, fun q hq => by cases hq⟩
      have B2N := Lib.hid b2n
      clear om2 bm2 b2n b4 hg2 m0 m1 m2 OM1 B2M
      clear hm1
      go_wp2_with (fail)
      clear hm2
      have HINJ : Hid (∀ x ∈ l, ∀ y ∈ l, gIndex Kg M B N x = gIndex Kg M B N y → x = y) := Lib.hid (by
        obtain ⟨hg, hn, _, _, ⟨hin', hnd⟩, hN0, hN1⟩ := allow_facts HAL.out
        intro x hx y hy e
        obtain ⟨k1, m1, _⟩ := k_cases hg
        rw [slots_eq hg] at hn
        exact index_inj hg hN0 hN1 ⟨(hin' x hx).1, by have := (hin' x hx).2; omega⟩ ⟨(hin' y hy).1, by have := (hin' y hy).2; omega⟩ e)
      have HND : Hid l.Nodup := Lib.hid (allow_facts HAL.out).2.2.2.2.1.2
      go_loopw [16, 17, 18, 19, 20, 21] (fun ub ur t _ _ _ wr => ∃ (i : Nat) (sh : List ByteArray) (hv : List Bool) (bad : List Int) (cnt : Nat), i ≤ l.length ∧ t = .int .i64 (i : Int) ∧ ur = .int .i64 (cnt : Int) ∧ Y = rdF n R id Kg M B N sh hv bad (l.drop i) ∧ (sh.length = n ∧ hv.length = n) ∧ Hid ((∀ j, j < n → hv.getD j false = true → (sh.getD j ⟨#[]⟩).size = 120) ∧ (∀ j, j < n → hv.getD j false = false → sh.getD j ⟨#[]⟩ = ⟨#[]⟩) ∧ ∀ x ∈ l.drop i, ∀ j : Nat, gIndex Kg M B N x = (j : Int) → hv.getD j false = false) ∧ Hid (cnt = hv.count true) ∧ bad.length ≤ i ∧ RdIn w2.heap.size n g1 g2 sh hv bad ub wr ∧ Below w2.heap.size w2 wr) (fun _ _ t _ _ _ _ => l.length - (RowKit.intOf t).toNat)
      case atStart => exact ⟨0, _, _, [], 0, Nat.zero_le _, rfl, rfl, HY.out, ⟨List.length_replicate, List.length_replicate⟩, Lib.hid ⟨fun j hj e => by simp [List.getD_eq_getElem?_getD, hj] at e, fun j hj _ => by simp [List.getD_eq_getElem?_getD, hj], fun x _ j _ => by
        rw [List.getD_eq_getElem?_getD]
        cases e : (List.replicate n false)[j]? with
        | none => rfl
        | some b => have := List.mem_of_getElem? e; rw [List.eq_of_mem_replicate this]; rfl⟩, Lib.hid (by rw [List.count_replicate]; rfl), Nat.le_refl _, hin.out, B2N.out⟩
      case round =>
        clear hin B2N HY
        obtain ⟨i, sh, hv, bad, cnt, hi, rfl, rfl, hYr, ⟨hsl, hvl⟩, hG, hcnt, hbl, hin, hB⟩ := hrel
        rename World => wr
        have hWr := H2.out.trans (hB.mono H2.out.size)
        have PW := P2.out wr hB
        have hcb : cnt ≤ 7 := by have e := hcnt.out; have := List.count_le_length (a := true) (l := hv); have := HN7.out; omega
        by_cases hlt : i < l.length
        · have y1 : (i : Int) < (l.length : Int) := by omega
          obtain ⟨cb, co, rfl, hc⟩ := HIT.out wr hWr i hlt
          have hxl := List.getElem_mem hlt
          obtain ⟨idx, hgi, hidx⟩ := index_nat HAL.out hxl
          obtain ⟨x, hx⟩ : ∃ x, l[i] = x := ⟨_, rfl⟩
          rw [hx] at hc hgi hxl
          have hdr : l.drop i = x :: l.drop (i + 1) := by rw [List.drop_eq_getElem_cons hlt, hx]
          rw [hdr] at hYr
          have hfr := hG.out.2.2 x (by rw [hdr]; exact List.mem_cons_self) idx hgi
          have hne : Hid (∀ y ∈ l.drop (i + 1), ∀ j : Nat, gIndex Kg M B N y = (j : Int) → idx ≠ j) := Lib.hid fun y hy j hj e => by
            have hyl : y ∈ l := List.mem_of_mem_drop hy
            have exy := HINJ.out x hxl y hyl (by rw [hgi, hj, e])
            have hnd := (HND.out.sublist (List.drop_sublist i l))
            rw [hdr] at hnd
            exact (List.nodup_cons.1 hnd).1 (by rw [exy]; exact hy)
          have hss := srS_yes (n := n) (R := R) (id := id) (s := x) (a := gSector Kg M B N)
          have hsn := srS_no (n := n) (R := R) (id := id) (s := x) (a := gSector Kg M B N)
          have hno := rdF_no (n := n) (R := R) (id := id) (sh := sh) (hv := hv) (bad := bad) (xs := l.drop (i + 1)) hgi
          have hyes := rdF_yes (n := n) (R := R) (id := id) (sh := sh) (hv := hv) (bad := bad) (xs := l.drop (i + 1)) hgi
          have CRx := Lib.hid (fun W hW => CR.out W x hW)
          have cIx : Hid (∀ W, Calls Tryz.prog 51 #[.agg #[.int .i64 Kg, .int .i64 M, .int .i64 B], .int .i64 N, .int .i64 x] W fun e w' => e = .returned (.int .i64 (idx : Int)) ∧ Below W.heap.size W w') := Lib.hid fun W => by rw [← hgi]; exact rindex_any Kg M B N x W
          have cSe : Hid (∀ W, Calls Tryz.prog 22 #[.agg #[.int .i64 Kg, .int .i64 M, .int .i64 B], .int .i64 N] W fun e w' => e = .returned (.int .i64 (gSector Kg M B N)) ∧ Below W.heap.size W w') := Lib.hid fun W => rsector_any Kg M B N W
          have HS : Hid (∀ W, Below wr.heap.size wr W → (W.heap[p]? = some (.cells #[.int .i64 Kg, .int .i64 M, .int .i64 B] 23 (0, 0)) ∧ W.cell? ⟨cb, co + i, none⟩ = some (.int .i64 x))) := Lib.hid fun W hW => by
            refine ⟨P2.out W (hB.trans (hW.mono hB.size)), ?_⟩
            obtain ⟨cb', co', e1, e2⟩ := HIT.out W (hWr.trans (hW.mono hWr.size)) i hlt
            obtain ⟨rfl, rfl⟩ : cb = cb' ∧ co = co' := by injection e1 with e1; injection e1 with e1 e2; exact ⟨e1, e2⟩
            rw [e2, hx]
          have HYr := Lib.hid hYr
          have Hin := Lib.hid hin
          have HB := Lib.hid hB
          have HWr := Lib.hid hWr
          have HSN := Lib.hid hsn
          have HSS := Lib.hid hss
          have HNO := Lib.hid hno
          have HYS := Lib.hid hyes
          generalize srS n R id x (gSector Kg M B N) = s at *
          generalize srB n R id x (gSector Kg M B N) = b at *
          generalize gSector Kg M B N = at_ at *
          clear hYr hin hB hWr PW hxl hgi hdr hss hsn hno hyes hx hc
          go_upto_region 13 with (fail)
          refine wp_region_held_drew (S := fun W => W.heap[p]? = some (.cells #[.int .i64 Kg, .int .i64 M, .int .i64 B] 23 (0, 0)) ∧ W.cell? ⟨cb, co + i, none⟩ = some (.int .i64 x)) (by kernel_rfl) (HS.out _ (Below.drewZ wr)) (fun hHeld => ?_)
          refine wpAnyH_takeD (i := 0) (some 47) rfl (by kernel_rfl) (by kernel_rfl) (by kernel_rfl) rfl (fun _ _ _ h => h) (Or.inl ⟨by rfl, by rintro w ⟨hs1, hs2⟩; first | rfl | (go_simp; done) | (go_simp; rfl)⟩) (by assumption) ?_
          simp only [Act.put, List.setIfInBounds_toArray, List.set_cons_zero, List.set_cons_succ]
          refine wpAnyH_takeD (i := 1) (some 48) rfl (by kernel_rfl) (by kernel_rfl) (by kernel_rfl) rfl (fun _ _ _ h => h) (Or.inl ⟨by rfl, by rintro w ⟨hs1, hs2⟩; first | rfl | (go_simp; done) | (go_simp; rfl)⟩) (by assumption) ?_
          simp only [Act.put, List.setIfInBounds_toArray, List.set_cons_zero, List.set_cons_succ]
          refine wpAnyH_takeD (i := 2) (some 49) rfl (by kernel_rfl) (by kernel_rfl) (by kernel_rfl) rfl (fun _ _ _ h => h) (Or.inl ⟨by rfl, by rintro w ⟨hs1, hs2⟩; first | rfl | (go_simp; done) | (go_simp; rfl)⟩) (by assumption) ?_
          simp only [Act.put, List.setIfInBounds_toArray, List.set_cons_zero, List.set_cons_succ]
          refine wpAnyH_takeD (i := 3) (some 50) rfl (by kernel_rfl) (by kernel_rfl) (by kernel_rfl) rfl (fun _ _ _ h => h) (Or.inl ⟨by rfl, by rintro w ⟨hs1, hs2⟩; first | rfl | (go_simp; done) | (go_simp; rfl)⟩) (by assumption) ?_
          simp only [Act.put, List.setIfInBounds_toArray, List.set_cons_zero, List.set_cons_succ]
          refine wpAnyH_takeD (i := 4) (v := .pointer (some ⟨cb, co + i, none⟩)) (some 51) rfl (by kernel_rfl) (by kernel_rfl) (by kernel_rfl) rfl (fun _ _ _ h => h) (yieldsIf_index_run (by rfl) _ _ rfl rfl rfl (fun W => slc_at Tryz.underlying26 (fun W => by kernel_rfl) cb co _ _ i hlt W)) (by assumption) ?_
          simp only [Act.put, List.setIfInBounds_toArray, List.set_cons_zero, List.set_cons_succ]
          refine wpAnyH_takeD (i := 5) (v := .int .i64 x) (some 52) rfl (by kernel_rfl) (by kernel_rfl) (by kernel_rfl) rfl (fun _ _ _ h => h) (yieldsIf_load_run (by rfl) _ rfl rfl (fun _ hs => cell_load (fun W => by kernel_rfl) hs.2)) (by assumption) ?_
          simp only [Act.put, List.setIfInBounds_toArray, List.set_cons_zero, List.set_cons_succ]
          refine wpAnyH_takeD (i := 6) (v := .agg #[.int .i64 Kg, .int .i64 M, .int .i64 B]) (some 53) rfl (by kernel_rfl) (by kernel_rfl) (by kernel_rfl) rfl (fun _ _ _ h => h) (yieldsIf_load_run (by rfl) _ rfl rfl (fun _ hs => geo_load hs.1)) (by assumption) ?_
          simp only [Act.put, List.setIfInBounds_toArray, List.set_cons_zero, List.set_cons_succ]
          refine wpAnyH_takeD (i := 7) (some 54) rfl (by kernel_rfl) (by kernel_rfl) (by kernel_rfl) rfl (fun _ _ _ h => h) (Or.inl ⟨by rfl, by rintro w ⟨hs1, hs2⟩; first | rfl | (go_simp; done) | (go_simp; rfl)⟩) (by assumption) ?_
          simp only [Act.put, List.setIfInBounds_toArray, List.set_cons_zero, List.set_cons_succ]
          refine wpAnyH_ready (rs := [8]) (by kernel_rfl) (by simp) ?_
          refine AllReadyH.cons rfl (fun K hK => ?_) AllReadyH.nil
          go_simp
          refine (cSe.out wr.drew).mono ?_
          rintro e wa ⟨rfl, ba0⟩
          have ba := (Below.drewZ wr).trans ba0
          refine hK.out _ _ (HS.out _ ba) (fun hHeld => ?_)
          clear hK
          try simp only [Act.put, List.setIfInBounds_toArray, List.set_cons_zero, List.set_cons_succ]
          refine wpAnyH_ready (rs := [9]) (by kernel_rfl) (by simp) ?_
          refine AllReadyH.cons rfl (fun K hK => ?_) AllReadyH.nil
          go_simp
          refine (CRx.out wa (HWr.out.trans (ba.mono HWr.out.size))).mono ?_
          rintro e wk ⟨rfl, bk0⟩
          have bk := ba.trans (bk0.mono ba.size)
          refine hK.out _ _ (HS.out _ bk) (fun hHeld => ?_)
          clear hK
          try simp only [Act.put, List.setIfInBounds_toArray, List.set_cons_zero, List.set_cons_succ]
          refine wpAnyH_takeD (i := 10) (v := .tuple #[.string s, .bool b]) (some 46) rfl (by kernel_rfl) (by kernel_rfl) (by kernel_rfl) rfl (fun _ _ _ h => h) (Or.inl ⟨by rfl, by rintro w ⟨hs1, hs2⟩; first | rfl | (go_simp; done) | (go_simp; rfl)⟩) (by assumption) ?_
          simp only [Act.put, List.setIfInBounds_toArray, List.set_cons_zero, List.set_cons_succ]
          refine wpAnyH_takeD (i := 11) (v := .string s) (some 57) rfl (by kernel_rfl) (by kernel_rfl) (by kernel_rfl) rfl (fun _ _ _ h => h) (Or.inl ⟨by rfl, by rintro w ⟨hs1, hs2⟩; first | rfl | (go_simp; done) | (go_simp; rfl)⟩) (by assumption) ?_
          simp only [Act.put, List.setIfInBounds_toArray, List.set_cons_zero, List.set_cons_succ]
          refine wpAnyH_takeD (i := 12) (v := .bool b) (some 58) rfl (by kernel_rfl) (by kernel_rfl) (by kernel_rfl) rfl (fun _ _ _ h => h) (Or.inl ⟨by rfl, by rintro w ⟨hs1, hs2⟩; first | rfl | (go_simp; done) | (go_simp; rfl)⟩) (by assumption) ?_
          simp only [Act.put, List.setIfInBounds_toArray, List.set_cons_zero, List.set_cons_succ]
          refine wpAnyH_takeD (i := 13) (v := .string s) (some 19) rfl (by kernel_rfl) (by kernel_rfl) (by kernel_rfl) rfl (fun _ _ _ h => h) (Or.inl ⟨by rfl, by rintro w ⟨hs1, hs2⟩; first | rfl | (go_simp; done) | (go_simp; rfl)⟩) (by assumption) ?_
          simp only [Act.put, List.setIfInBounds_toArray, List.set_cons_zero, List.set_cons_succ]
          refine wpAnyH_takeD (i := 14) (v := .bool b) (some 20) rfl (by kernel_rfl) (by kernel_rfl) (by kernel_rfl) rfl (fun _ _ _ h => h) (Or.inl ⟨by rfl, by rintro w ⟨hs1, hs2⟩; first | rfl | (go_simp; done) | (go_simp; rfl)⟩) (by assumption) ?_
          simp only [Act.put, List.setIfInBounds_toArray, List.set_cons_zero, List.set_cons_succ]
          refine wpAnyH_done (by kernel_rfl) ?_ _
          have HBk := Lib.hid bk
          clear hHeld bk ba
          cases b with
          | false =>
            have hY2 : Hid (Y = rdF n R id Kg M B N sh hv (bad ++ [x]) (l.drop (i + 1))) := Lib.hid (by rw [HYr.out]; exact HNO.out rfl (hG.out.2.1 idx hidx hfr) hfr)
            have hG2 : Hid ((∀ j, j < n → hv.getD j false = true → (sh.getD j ⟨#[]⟩).size = 120) ∧ (∀ j, j < n → hv.getD j false = false → sh.getD j ⟨#[]⟩ = ⟨#[]⟩) ∧ ∀ x ∈ l.drop (i + 1), ∀ j : Nat, gIndex Kg M B N x = (j : Int) → hv.getD j false = false) := Lib.hid ⟨hG.out.1, hG.out.2.1, fun y hy j hj => hG.out.2.2 y (by rw [List.drop_eq_getElem_cons hlt]; exact List.mem_cons_of_mem _ hy) j hj⟩
            have xk := Hin.out.after HBk.out
            have hBk := HB.out.trans (HBk.out.mono HB.out.size)
            have cxk := (HS.out wk HBk.out).2
            obtain ⟨v8, w8, hap, o8, b8, kp8, hv8⟩ := Own.pushA (P := Tryz.prog) (T := 26) Tryz.underlying26 q1 q2 q3 q4 rfl xk.b (.int .i64 x) rfl hBk.size (by rw [List.length_map]; omega) (by rw [List.length_map]; omega)
            have X8 := Lib.hid (xk.push o8 kp8 hv8)
            have HB8 := Lib.hid (hBk.trans b8)
            clear o8 b8 kp8 hv8 xk hBk HYr hG hfr hne HSN HSS HNO HYS Hin HB HBk
            go_wp2_with (at_builtin; refine wpList_append_run hap _ _ rfl rfl rfl rfl rfl ?_)
            go_roundw
            case rel => exact ⟨i + 1, sh, hv, bad ++ [x], cnt, by omega, by go_num, rfl, hY2.out, ⟨hsl, hvl⟩, hG2, hcnt, by rw [List.length_append]; simp; omega, X8.out, HB8.out⟩
            case measure => simp [RowKit.intOf]; omega
          | true =>
            have hY2 : Hid (Y = rdF n R id Kg M B N (sh.set idx s) (hv.set idx true) bad (l.drop (i + 1))) := Lib.hid (by rw [HYr.out]; exact HYS.out rfl)
            have hG2 : Hid ((∀ j, j < n → (hv.set idx true).getD j false = true → ((sh.set idx s).getD j ⟨#[]⟩).size = 120) ∧ (∀ j, j < n → (hv.set idx true).getD j false = false → (sh.set idx s).getD j ⟨#[]⟩ = ⟨#[]⟩) ∧ ∀ x ∈ l.drop (i + 1), ∀ j : Nat, gIndex Kg M B N x = (j : Int) → (hv.set idx true).getD j false = false) := Lib.hid (by
              refine ⟨fun j hj e => ?_, fun j hj e => ?_, fun y hy j hj => ?_⟩
              · by_cases z : idx = j
                · subst z
                  rw [List.getD_eq_getElem?_getD, List.getElem?_set_self (by omega), Option.getD_some]; exact HSS.out rfl
                · rw [List.getD_eq_getElem?_getD, List.getElem?_set_ne z, ← List.getD_eq_getElem?_getD] at e ⊢
                  exact hG.out.1 j hj e
              · by_cases z : idx = j
                · subst z
                  rw [List.getD_eq_getElem?_getD, List.getElem?_set_self (by omega), Option.getD_some] at e; cases e
                · rw [List.getD_eq_getElem?_getD, List.getElem?_set_ne z, ← List.getD_eq_getElem?_getD] at e ⊢
                  exact hG.out.2.1 j hj e
              · rw [List.getD_eq_getElem?_getD, List.getElem?_set_ne (hne.out y hy j hj), ← List.getD_eq_getElem?_getD]
                exact hG.out.2.2 y (by rw [List.drop_eq_getElem_cons hlt]; exact List.mem_cons_of_mem _ hy) j hj)
            have hcn : Hid (cnt + 1 = (hv.set idx true).count true) := Lib.hid (by rw [count_set (by omega) hfr, hcnt.out]; rfl)
            have hpk := P2.out wk (HB.out.trans (HBk.out.mono HB.out.size))
            have HXl : Hid (sh.length = n ∧ hv.length = n) := Lib.hid ⟨hsl, hvl⟩
            clear HYr hG hfr hne HSN HSS HNO HYS
            clear hsl hvl
            go_upto_region 17 with (fail)
            refine wp_region_held_drew (S := fun W => W.heap[p]? = some (.cells #[.int .i64 Kg, .int .i64 M, .int .i64 B] 23 (0, 0)) ∧ W.cell? ⟨cb, co + i, none⟩ = some (.int .i64 x)) (by kernel_rfl) (HS.out _ (HBk.out.trans ((Below.drewZ wk).mono HBk.out.size))) (fun hHeld => ?_)
            refine wpAnyH_takeD (i := 0) (v := .agg #[.int .i64 Kg, .int .i64 M, .int .i64 B]) (some 70) rfl (by kernel_rfl) (by kernel_rfl) (by kernel_rfl) rfl (fun _ _ _ h => h) (yieldsIf_load_run (by rfl) _ rfl rfl (fun _ hs => geo_load hs.1)) (by assumption) ?_
            simp only [Act.put, List.setIfInBounds_toArray, List.set_cons_zero, List.set_cons_succ]
            refine wpAnyH_takeD (i := 1) (some 71) rfl (by kernel_rfl) (by kernel_rfl) (by kernel_rfl) rfl (fun _ _ _ h => h) (Or.inl ⟨by rfl, by rintro w ⟨hs1, hs2⟩; first | rfl | (go_simp; done) | (go_simp; rfl)⟩) (by assumption) ?_
            simp only [Act.put, List.setIfInBounds_toArray, List.set_cons_zero, List.set_cons_succ]
            refine wpAnyH_takeD (i := 2) (some 72) rfl (by kernel_rfl) (by kernel_rfl) (by kernel_rfl) rfl (fun _ _ _ h => h) (Or.inl ⟨by rfl, by rintro w ⟨hs1, hs2⟩; first | rfl | (go_simp; done) | (go_simp; rfl)⟩) (by assumption) ?_
            simp only [Act.put, List.setIfInBounds_toArray, List.set_cons_zero, List.set_cons_succ]
            refine wpAnyH_takeD (i := 3) (some 73) rfl (by kernel_rfl) (by kernel_rfl) (by kernel_rfl) rfl (fun _ _ _ h => h) (Or.inl ⟨by rfl, by rintro w ⟨hs1, hs2⟩; first | rfl | (go_simp; done) | (go_simp; rfl)⟩) (by assumption) ?_
            simp only [Act.put, List.setIfInBounds_toArray, List.set_cons_zero, List.set_cons_succ]
            refine wpAnyH_takeD (i := 4) (v := .pointer (some ⟨cb, co + i, none⟩)) (some 74) rfl (by kernel_rfl) (by kernel_rfl) (by kernel_rfl) rfl (fun _ _ _ h => h) (yieldsIf_index_run (by rfl) _ _ rfl rfl rfl (fun W => slc_at Tryz.underlying26 (fun W => by kernel_rfl) cb co _ _ i hlt W)) (by assumption) ?_
            simp only [Act.put, List.setIfInBounds_toArray, List.set_cons_zero, List.set_cons_succ]
            refine wpAnyH_takeD (i := 5) (v := .int .i64 x) (some 75) rfl (by kernel_rfl) (by kernel_rfl) (by kernel_rfl) rfl (fun _ _ _ h => h) (yieldsIf_load_run (by rfl) _ rfl rfl (fun _ hs => cell_load (fun W => by kernel_rfl) hs.2)) (by assumption) ?_
            simp only [Act.put, List.setIfInBounds_toArray, List.set_cons_zero, List.set_cons_succ]
            have bka := HBk.out.trans ((Below.drewZ wk).mono HBk.out.size)
            refine wpAnyH_ready (rs := [6]) (by kernel_rfl) (by simp) ?_
            refine AllReadyH.cons rfl (fun K hK => ?_) AllReadyH.nil
            go_simp
            refine (cIx.out wk.drew).mono ?_
            rintro e wm ⟨rfl, bm0⟩
            have bm := bka.trans (bm0.mono bka.size)
            refine hK.out _ _ (HS.out _ bm) (fun hHeld => ?_)
            clear hK
            try simp only [Act.put, List.setIfInBounds_toArray, List.set_cons_zero, List.set_cons_succ]
            refine wpAnyH_takeD (i := 7) (v := .int .i64 (idx : Int)) (some 21) rfl (by kernel_rfl) (by kernel_rfl) (by kernel_rfl) rfl (fun _ _ _ h => h) (Or.inl ⟨by rfl, by rintro w ⟨hs1, hs2⟩; first | rfl | (go_simp; done) | (go_simp; rfl)⟩) (by assumption) ?_
            simp only [Act.put, List.setIfInBounds_toArray, List.set_cons_zero, List.set_cons_succ]
            refine wpAnyH_done (by kernel_rfl) ?_ _
            have HBm := Lib.hid bm
            clear hHeld bm hpk bka
            have xm := Hin.out.after HBm.out
            have hBm := HB.out.trans (HBm.out.mono HB.out.size)
            have f1 := xm.s.frozen idx
            have k1 := xm.s.cell (i := idx) (by rw [List.length_map]; have := HXl.out; omega)
            have xmh := xm.h.setOther (a := ⟨g1, idx, none⟩) (fun e => xm.ne (by injection e with e; exact e.symm)) (.string s)
            have f2 := xmh.frozen idx
            have k2 := xmh.cell (i := idx) (by rw [bv_length]; have := HXl.out; omega)
            have X6 := Lib.hid (xm.put idx s true)
            have HB6 : Hid (Below w2.heap.size w2 ((wm.setCell ⟨g1, idx, none⟩ (.string s)).setCell ⟨g2, idx, none⟩ (.bool true))) := Lib.hid ((hBm.setCell (p := ⟨g1, idx, none⟩) xm.s.lt.1 _).setCell (p := ⟨g2, idx, none⟩) xm.h.lt.1 _)
            have hidxI : (idx : Int) < (n : Int) := by omega
            generalize (tx sh).getD idx .nilFunc = o1 at k1
            generalize (bv hv).getD idx .nilFunc = o2 at k2
            clear xm hBm xmh
            go_wp2_with (fail)
            go_roundw
            case rel => exact ⟨i + 1, _, _, bad, cnt + 1, by omega, by go_num, by go_num, hY2.out, ⟨by rw [List.length_set]; exact HXl.out.1, by rw [List.length_set]; exact HXl.out.2⟩, hG2, hcn, by omega, X6.out, HB6.out⟩
            case measure => simp [RowKit.intOf]; omega
        · obtain rfl : i = l.length := by omega
          have y1 : ¬ ((l.length : Int) < (l.length : Int)) := by omega
          rw [List.drop_length] at hYr
          have hYe : Hid (Y = (sh, hv, bad)) := Lib.hid hYr
          have hfacts := allow_facts HAL.out
          obtain ⟨kk, rfl⟩ := Int.eq_ofNat_of_zero_le (show 0 ≤ Kg by have := k_cases hfacts.1; omega)
          obtain ⟨mm, rfl⟩ := Int.eq_ofNat_of_zero_le (show 0 ≤ M by have := k_cases hfacts.1; omega)
          have hkm := k_cases hfacts.1
          have hnk : n = kk + mm := by have e := hfacts.2.1; rw [slots_eq hfacts.1] at e; omega
          have hdec := dec_eq (m := mm) (k := kk) (all := sh) (hv := hv) (by omega) (by omega) (fun j hj e => hG.out.1 j (by omega) e) (by omega) (by omega) (by omega) (by omega)
          have cD := rdecode_any (mm : Int) (.slice (some ⟨g1, 0, none⟩) n n) (.slice (some ⟨g2, 0, none⟩) n n) sh hv wr hin.s.reads hin.h.reads ⟨by omega, fun j hj => by
            by_cases e : hv.getD j false = true
            · rw [hG.out.1 j (by omega) e]; decide
            · rw [hG.out.2.1 j (by omega) (by simpa using e)]; decide⟩ (by omega) (by omega) (by omega) (by omega)
          have c0 : wr.cell? ⟨p, 0, none⟩ = some (.int .i64 (kk : Int)) := heap_cell PW rfl
          have c1 : wr.cell? ⟨p, 1, none⟩ = some (.int .i64 (mm : Int)) := heap_cell PW rfl
          have HB := Lib.hid hWr
          have OB := Lib.hid (hin.b.down H2.out.size)
          have HDE := Lib.hid hdec
          by_cases hc : kk ≤ cnt
          · have y2 : ¬ ((cnt : Int) < (kk : Int)) := by omega
            have hXe : Hid (X = (decL (mm : Int) sh hv, bad, 0)) := Lib.hid (by
              have := HX1.out
              rw [hYe.out] at this
              exact this (by rw [HDE.out, if_pos (by rw [← hcnt.out]; exact hc)]))
            clear hYr hG hin hB hWr PW hfacts hkm hnk hdec hc hsl hvl hcnt
            go_wp2_with (fail)
            refine cD.mono ?_
            rintro e w5 ⟨vd, rfl, od, b5⟩
            have hf := Lib.hid (And.intro (od.down HB.out.size) (And.intro (OB.out.after b5) (HB.out.trans (b5.mono HB.out.size))))
            clear cD od b5
            go_wp2_with (fail)
            go_ret3
            rw [hXe.out]
            exact ⟨_, _, rfl, hf.out.1, hf.out.2.1, hf.out.2.2⟩
          · have y2 : (cnt : Int) < (kk : Int) := by omega
            have hXe : Hid (X = ([], bad, 130)) := Lib.hid (by
              have := HX2.out
              rw [hYe.out] at this
              exact this (by rw [HDE.out, if_neg (by rw [← hcnt.out]; exact hc)]; decide))
            clear hYr hG hin hB hWr PW hfacts hkm hnk hdec hc hsl hvl hcnt cD
            go_wp2_with (fail)
            go_ret3
            rw [hXe.out]
            exact ⟨_, _, rfl, Own.nil _ _ _, OB.out, HB.out⟩
  · have hX2 : Hid (X = ([], [], 1)) := Lib.hid (by rw [← HX.out]; unfold stR; rw [if_neg hal])
    have hal' : allowB n R id Kg M B l N = false := by simpa using hal
    rw [hal'] at cA
    clear hal hal'
    go_enter Tryz.func27, Tryz.ntmps27
    go_wp2_with (fail)
    rw [show w1.alloc (.cells #[.int .i64 Kg, .int .i64 M, .int .i64 B] 23) = W0 from hW0.symm]
    clear hW0
    refine cA.mono ?_
    rintro e w2 ⟨rfl, b2⟩
    have hfin := Lib.hid (rdoes_no (HB0.out.trans (b2.mono HB0.out.size)) 1)
    clear cA b2 c0 c1 c2
    go_wp2_with (fail)
    go_ret3
    rw [hX2.out]
    exact hfin.out
end
end Go.Proofs.YtjgafpkpoppcbaaGreatDoor
