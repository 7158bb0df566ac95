/- trie: has each tree what the book says? -/
import Derived.Test.YtlbjfigdocbffaaTriNew
import Derived.Laws.Cover1
namespace Go.Proofs.Ytlbjfigdocbffaa
open Go.RowKit
set_option linter.unusedVariables false
set_option linter.unusedSimpArgs false

section
variable {w w' : World} {bk rb kb tb h g m : Nat} {u : Value} {Y : Tri.TW ByteArray} {Z : Int → Bool} {R : Nat → Nat} {G : Nat → Prop} {lv pos : Nat → Nat} {kv tv : Nat → Value}
set_option maxRecDepth 100000 in
set_option maxHeartbeats 8000000 in
theorem right_any (B : Bk w bk rb kb tb h g m u Y Z R G lv pos kv tv) :
    Calls Try.prog 11 #[.pointer (some ⟨bk, 0, none⟩)] w (Same2 w (.bool true)) := by
  have HB := Lib.hid B
  clear B
  go_enter Try.func11, Try.ntmps11
  go_wp2_with (fail)
  go_loopw [3, 4, 5, 6, 7, 8, 9, 10] (fun i _ _ _ _ _ _ _ wr => ∃ q : Nat, q ≤ 4 ∧ i = .int .i64 (q : Int) ∧ Below w.heap.size w wr) (fun i _ _ _ _ _ _ _ _ => 4 - (intOf i).toNat)
  case atStart => exact ⟨0, by omega, rfl, Below.refl _ _⟩
  case round =>
    obtain ⟨q, hq, rfl, hb⟩ := hrel
    by_cases hlt : q < 4
    · have y1 : (q : Int) < 4 := by omega
      have D : Below wr.heap.size wr wr.drew := ⟨rfl, rfl, rfl, Nat.le_refl _, fun _ _ => rfl⟩
      have b2 := HB.out.below (hb.trans (D.mono hb.size))
      have HS : Hid (∀ W, Below w.heap.size w W → W.cell? ⟨bk, 1, none⟩ = some (.pointer (some ⟨h, 0, none⟩)) ∧ W.cell? ⟨bk, 2, none⟩ = some (.slice (some ⟨rb, 0, none⟩) 4 4) ∧ W.cell? ⟨rb, q, none⟩ = some (.int .i64 (R q : Int))) := Lib.hid fun W hW => ⟨(HB.out.bw.below hW).c1, (HB.out.bw.below hW).c2, (HB.out.bw.below hW).cr hlt⟩
      have cpr := Pairs_spec b2.ts.ok b2.ts.lt (R q) (b2.ts.root2 hlt) wr.drew b2.hp
      have hbd := hb.trans (D.mono hb.size)
      have Hbd := Lib.hid hbd
      have hKl : (treeL Y.σ.e Y.T (R q)).length = (pairsL Y.σ.e 3 (R q) 0).length := by rw [treeL_pairs, List.length_map]
      have hkL : Hid (∀ j (hj : j < (pairsL Y.σ.e 3 (R q) 0).length), (pairsL Y.σ.e 3 (R q) 0)[j].1 < 4096 ∧ (pairsL Y.σ.e 3 (R q) 0)[j].2 < 200 ∧ Tri.get Y.σ.e 3 (R q) (pairsL Y.σ.e 3 (R q) 0)[j].1 = (pairsL Y.σ.e 3 (R q) 0)[j].2) := Lib.hid fun j hj => pairs_at b2.ts hlt _ (List.getElem_mem hj)
      obtain ⟨ka, kc, hkv, hkit⟩ := Reads.items (HB.out.bw.kr q hlt)
      obtain ⟨ta, tc, htv, htit⟩ := Reads.items (HB.out.bw.tr q hlt)
      have HKT : Hid (∀ j (hj : j < (pairsL Y.σ.e 3 (R q) 0).length), ∃ cb co xb xo, ka = some ⟨cb, co, none⟩ ∧ ta = some ⟨xb, xo, none⟩ ∧ ∀ W, Below w.heap.size w W → W.cell? ⟨cb, co + j, none⟩ = some (.int .i64 (((pairsL Y.σ.e 3 (R q) 0)[j].1 : Nat) : Int)) ∧ W.cell? ⟨xb, xo + j, none⟩ = some (.string (Y.T (pairsL Y.σ.e 3 (R q) 0)[j].2))) := Lib.hid fun j hj => by
        obtain ⟨cb, co, e1, e2, e3⟩ := hkit j (by omega)
        obtain ⟨xb, xo, f1, f2, f3⟩ := htit j (by omega)
        have hel : (treeL Y.σ.e Y.T (R q))[j]'(by omega) = ((pairsL Y.σ.e 3 (R q) 0)[j].1, Y.T (pairsL Y.σ.e 3 (R q) 0)[j].2) := by
          have := treeL_pairs Y.σ.e Y.T (R q)
          simp only [this, List.getElem_map]
        rw [hel] at e3 f3
        exact ⟨cb, co, xb, xo, e1, f1, fun W hW => ⟨(hW.cell (p := ⟨cb, co + j, none⟩) e2).trans e3, (hW.cell (p := ⟨xb, xo + j, none⟩) f2).trans f3⟩⟩
      rw [hKl] at hkv htv
      have HC : Hid (∀ W, Below w.heap.size w W → W.cell? ⟨bk, 3, none⟩ = some (.slice (some ⟨kb, 0, none⟩) 4 4) ∧ W.cell? ⟨bk, 4, none⟩ = some (.slice (some ⟨tb, 0, none⟩) 4 4) ∧ W.cell? ⟨kb, q, none⟩ = some (.slice ka (pairsL Y.σ.e 3 (R q) 0).length kc) ∧ W.cell? ⟨tb, q, none⟩ = some (.slice ta (pairsL Y.σ.e 3 (R q) 0).length tc)) := Lib.hid fun W hW => by
        have H2 := HB.out.bw.below hW
        exact ⟨H2.c3, H2.c4, by rw [H2.ck hlt, hkv], by rw [H2.ct hlt, htv]⟩
      have hPl : (pairsL Y.σ.e 3 (R q) 0).length ≤ 4096 := pairsL_len _ _ _ _
      have HF : Hid (∀ W (key : Nat), Below w.heap.size w W → key < 4096 → Calls Try.prog 18 #[.pointer (some ⟨h, 0, none⟩), .int .i64 (R q : Int), .int .i64 (key : Int)] W (Same2 W (.tuple #[.int .i64 ((Tri.get Y.σ.e 3 (R q) key : Nat) : Int), .int .i64 0]))) := Lib.hid fun W key hW hk => find_spec (HB.out.hp.below hW) HB.out.ts.ok HB.out.ts.lt (HB.out.ts.root hlt) hk
      have HRD : Hid (∀ W (b : Nat), Below w.heap.size w W → b < 200 → Calls Try.prog 35 #[.pointer (some ⟨h, 0, none⟩), .int .i64 (b : Int)] W (GivesS W (Y.T b))) := Lib.hid fun W b hW hb => by
        obtain ⟨F, hF⟩ := HB.out.hp.below hW
        exact hread_any hF b hb
      clear hkv htv hkit htit b2 hb D hKl
      generalize pairsL Y.σ.e 3 (R q) 0 = L at *
      go_upto_region 4 with (fail)
      refine wp_region_held_drew (S := fun W => W.cell? ⟨bk, 1, none⟩ = some (.pointer (some ⟨h, 0, none⟩)) ∧ W.cell? ⟨bk, 2, none⟩ = some (.slice (some ⟨rb, 0, none⟩) 4 4) ∧ W.cell? ⟨rb, q, none⟩ = some (.int .i64 (R q : Int))) (by kernel_rfl) (HS.out _ hbd) (fun hHeld => ?_)
      refine wpAnyH_takeD (i := 0) (some 16) rfl (by kernel_rfl) (by kernel_rfl) (by kernel_rfl) rfl (fun _ _ _ h => h) (Or.inl ⟨by rfl, by rintro w ⟨hs1, hs2, hs3⟩; go_simp; try rfl⟩) (by assumption) ?_
      simp only [Act.put, List.setIfInBounds_toArray, List.set_cons_zero, List.set_cons_succ]
      refine wpAnyH_takeD (i := 1) (some 17) rfl (by kernel_rfl) (by kernel_rfl) (by kernel_rfl) rfl (fun _ _ _ h => h) (Or.inl ⟨by rfl, by rintro w ⟨hs1, hs2, hs3⟩; go_simp; try rfl⟩) (by assumption) ?_
      simp only [Act.put, List.setIfInBounds_toArray, List.set_cons_zero, List.set_cons_succ]
      refine wpAnyH_takeD (i := 2) (some 18) rfl (by kernel_rfl) (by kernel_rfl) (by kernel_rfl) rfl (fun _ _ _ h => h) (Or.inl ⟨by rfl, by rintro w ⟨hs1, hs2, hs3⟩; go_simp; try rfl⟩) (by assumption) ?_
      simp only [Act.put, List.setIfInBounds_toArray, List.set_cons_zero, List.set_cons_succ]
      refine wpAnyH_takeD (i := 3) (some 19) rfl (by kernel_rfl) (by kernel_rfl) (by kernel_rfl) rfl (fun _ _ _ h => h) (Or.inl ⟨by rfl, by rintro w ⟨hs1, hs2, hs3⟩; go_simp; try rfl⟩) (by assumption) ?_
      simp only [Act.put, List.setIfInBounds_toArray, List.set_cons_zero, List.set_cons_succ]
      refine wpAnyH_takeD (i := 4) (some 20) rfl (by kernel_rfl) (by kernel_rfl) (by kernel_rfl) rfl (fun _ _ _ h => h) (Or.inl ⟨by rfl, by rintro w ⟨hs1, hs2, hs3⟩; go_simp; try rfl⟩) (by assumption) ?_
      simp only [Act.put, List.setIfInBounds_toArray, List.set_cons_zero, List.set_cons_succ]
      refine wpAnyH_takeD (i := 5) (some 21) rfl (by kernel_rfl) (by kernel_rfl) (by kernel_rfl) rfl (fun _ _ _ h => h) (Or.inl ⟨by rfl, by rintro w ⟨hs1, hs2, hs3⟩; go_simp; try rfl⟩) (by assumption) ?_
      simp only [Act.put, List.setIfInBounds_toArray, List.set_cons_zero, List.set_cons_succ]
      refine wpAnyH_takeD (i := 6) (some 22) rfl (by kernel_rfl) (by kernel_rfl) (by kernel_rfl) rfl (fun _ _ _ h => h) (Or.inl ⟨by rfl, by rintro w ⟨hs1, hs2, hs3⟩; go_simp; try rfl⟩) (by assumption) ?_
      simp only [Act.put, List.setIfInBounds_toArray, List.set_cons_zero, List.set_cons_succ]
      refine wpAnyH_takeD (i := 7) (some 23) rfl (by kernel_rfl) (by kernel_rfl) (by kernel_rfl) rfl (fun _ _ _ h => h) (Or.inl ⟨by rfl, by rintro w ⟨hs1, hs2, hs3⟩; go_simp; try rfl⟩) (by assumption) ?_
      simp only [Act.put, List.setIfInBounds_toArray, List.set_cons_zero, List.set_cons_succ]
      refine wpAnyH_takeD (i := 8) (some 24) rfl (by kernel_rfl) (by kernel_rfl) (by kernel_rfl) rfl (fun _ _ _ h => h) (Or.inl ⟨by rfl, by rintro w ⟨hs1, hs2, hs3⟩; go_simp; try rfl⟩) (by assumption) ?_
      simp only [Act.put, List.setIfInBounds_toArray, List.set_cons_zero, List.set_cons_succ]
      refine wpAnyH_takeD (i := 9) (some 25) rfl (by kernel_rfl) (by kernel_rfl) (by kernel_rfl) rfl (fun _ _ _ h => h) (Or.inl ⟨by rfl, by rintro w ⟨hs1, hs2, hs3⟩; go_simp; try rfl⟩) (by assumption) ?_
      simp only [Act.put, List.setIfInBounds_toArray, List.set_cons_zero, List.set_cons_succ]
      refine wpAnyH_takeD (i := 10) (some 26) rfl (by kernel_rfl) (by kernel_rfl) (by kernel_rfl) rfl (fun _ _ _ h => h) (Or.inl ⟨by rfl, by rintro w ⟨hs1, hs2, hs3⟩; go_simp; try rfl⟩) (by assumption) ?_
      simp only [Act.put, List.setIfInBounds_toArray, List.set_cons_zero, List.set_cons_succ]
      refine wpAnyH_ready (rs := [11]) (by kernel_rfl) (by simp) ?_
      refine AllReadyH.cons rfl (fun K hK => ?_) AllReadyH.nil
      go_simp
      refine cpr.mono ?_
      rintro x w5 ⟨v, rfl, o5, q5⟩
      refine hK.out _ _ (HS.out _ (Hbd.out.trans (q5.mono Hbd.out.size))) (fun hHeld => ?_)
      clear hK
      try simp only [Act.put, List.setIfInBounds_toArray, List.set_cons_zero, List.set_cons_succ]
      refine wpAnyH_takeD (i := 12) (v := Value.tuple #[v, .int .i64 0]) (some 15) rfl (by kernel_rfl) (by kernel_rfl) (by kernel_rfl) rfl (fun _ _ _ h => h) (Or.inl ⟨by rfl, by rintro w ⟨hs1, hs2, hs3⟩; go_simp; try rfl⟩) (by assumption) ?_
      simp only [Act.put, List.setIfInBounds_toArray, List.set_cons_zero, List.set_cons_succ]
      refine wpAnyH_takeD (i := 13) (v := v) (some 28) rfl (by kernel_rfl) (by kernel_rfl) (by kernel_rfl) rfl (fun _ _ _ h => h) (Or.inl ⟨by rfl, by rintro w ⟨hs1, hs2, hs3⟩; go_simp; try rfl⟩) (by assumption) ?_
      simp only [Act.put, List.setIfInBounds_toArray, List.set_cons_zero, List.set_cons_succ]
      refine wpAnyH_takeD (i := 14) (v := Value.int .i64 0) (some 29) rfl (by kernel_rfl) (by kernel_rfl) (by kernel_rfl) rfl (fun _ _ _ h => h) (Or.inl ⟨by rfl, by rintro w ⟨hs1, hs2, hs3⟩; go_simp; try rfl⟩) (by assumption) ?_
      simp only [Act.put, List.setIfInBounds_toArray, List.set_cons_zero, List.set_cons_succ]
      refine wpAnyH_takeD (i := 15) (v := v) (some 4) rfl (by kernel_rfl) (by kernel_rfl) (by kernel_rfl) rfl (fun _ _ _ h => h) (Or.inl ⟨by rfl, by rintro w ⟨hs1, hs2, hs3⟩; go_simp; try rfl⟩) (by assumption) ?_
      simp only [Act.put, List.setIfInBounds_toArray, List.set_cons_zero, List.set_cons_succ]
      refine wpAnyH_takeD (i := 16) (v := Value.int .i64 0) (some 5) rfl (by kernel_rfl) (by kernel_rfl) (by kernel_rfl) rfl (fun _ _ _ h => h) (Or.inl ⟨by rfl, by rintro w ⟨hs1, hs2, hs3⟩; go_simp; try rfl⟩) (by assumption) ?_
      simp only [Act.put, List.setIfInBounds_toArray, List.set_cons_zero, List.set_cons_succ]
      refine wpAnyH_done (by kernel_rfl) ?_ _
      obtain ⟨pa, pc, rfl, hpit⟩ := ReadsE.items o5.reads
      have B5 : Below w.heap.size w w5 := Hbd.out.trans (q5.mono Hbd.out.size)
      obtain ⟨k3, k4, kk, kt⟩ := HC.out w5 B5
      have HPIT := Lib.hid hpit
      have HB5 := Lib.hid B5
      clear hpit o5 q5 B5 hbd cpr
      go_wp2_with (fail)
      go_loopw [6, 7, 8, 9, 10] (fun t _ _ _ _ wz => ∃ p : Nat, p ≤ L.length ∧ t = .int .i64 (p : Int) ∧ Below w5.heap.size w5 wz) (fun t _ _ _ _ _ => L.length - (intOf t).toNat)
      case atStart => exact ⟨0, Nat.zero_le _, rfl, Below.refl _ _⟩
      case round =>
        clear k3 k4 kk kt
        obtain ⟨p, hp, rfl, hbz⟩ := hrel
        rename World => wz
        by_cases hpl : p < L.length
        · obtain ⟨hk1, hk2, hk3⟩ := hkL.out p hpl
          obtain ⟨cb, co, xb, xo, rfl, rfl, hkt⟩ := HKT.out p hpl
          obtain ⟨lb, lo, rfl, hlb, hlc⟩ := HPIT.out p hpl
          have z1 : (p : Int) < (L.length : Int) := by omega
          have hc0 : w5.cell? ⟨lb, lo + p * 2, none⟩ = some (.int .i64 ((L[p].1 : Nat) : Int)) := hlc 0 (by decide)
          have hc1 : w5.cell? ⟨lb, lo + p * 2 + 1, none⟩ = some (.int .i64 ((L[p].2 : Nat) : Int)) := hlc 1 (by decide)
          have HL : Hid (∀ W, Below w5.heap.size w5 W → W.cell? ⟨lb, lo + p * 2, none⟩ = some (.int .i64 ((L[p].1 : Nat) : Int)) ∧ W.cell? ⟨lb, lo + p * 2 + 1, none⟩ = some (.int .i64 ((L[p].2 : Nat) : Int))) := Lib.hid fun W hW => ⟨(hW.cell (p := ⟨lb, lo + p * 2, none⟩) hlb).trans hc0, (hW.cell (p := ⟨lb, lo + p * 2 + 1, none⟩) hlb).trans hc1⟩
          have HKT2 := Lib.hid hkt
          clear hc0 hc1 hlc hkt hlb
          generalize hpk : L[p].1 = pk1 at *
          generalize hpb : L[p].2 = pb1 at *
          clear hpk hpb
          have Dz : Below wz.heap.size wz wz.drew := ⟨rfl, rfl, rfl, Nat.le_refl _, fun _ _ => rfl⟩
          have hbz2 := hbz.trans (Dz.mono hbz.size)
          have crd := HRD.out wz.drew pb1 (HB5.out.trans (hbz2.mono HB5.out.size)) hk2
          have Hbz2 := Lib.hid hbz2
          clear hbz Dz hbz2
          go_upto_region 10 with (fail)
          refine wp_region_held_drew (S := fun W => W.cell? ⟨bk, 1, none⟩ = some (.pointer (some ⟨h, 0, none⟩)) ∧ W.cell? ⟨lb, lo + p * 2 + 1, none⟩ = some (.int .i64 (pb1 : Int))) (by kernel_rfl) ⟨(HS.out _ (HB5.out.trans (Hbz2.out.mono HB5.out.size))).1, (HL.out _ Hbz2.out).2⟩ (fun hHeld => ?_)
          refine wpAnyH_takeD (i := 0) (some 52) rfl (by kernel_rfl) (by kernel_rfl) (by kernel_rfl) rfl (fun _ _ _ h => h) (Or.inl ⟨by rfl, by rintro w ⟨hs1, hs2⟩; go_simp; try rfl⟩) (by assumption) ?_
          simp only [Act.put, List.setIfInBounds_toArray, List.set_cons_zero, List.set_cons_succ]
          refine wpAnyH_takeD (i := 1) (some 53) rfl (by kernel_rfl) (by kernel_rfl) (by kernel_rfl) rfl (fun _ _ _ h => h) (Or.inl ⟨by rfl, by rintro w ⟨hs1, hs2⟩; go_simp; try rfl⟩) (by assumption) ?_
          simp only [Act.put, List.setIfInBounds_toArray, List.set_cons_zero, List.set_cons_succ]
          refine wpAnyH_takeD (i := 2) (some 54) rfl (by kernel_rfl) (by kernel_rfl) (by kernel_rfl) rfl (fun _ _ _ h => h) (Or.inl ⟨by rfl, by rintro w ⟨hs1, hs2⟩; go_simp; try rfl⟩) (by assumption) ?_
          simp only [Act.put, List.setIfInBounds_toArray, List.set_cons_zero, List.set_cons_succ]
          refine wpAnyH_takeD (i := 3) (some 55) rfl (by kernel_rfl) (by kernel_rfl) (by kernel_rfl) rfl (fun _ _ _ h => h) (Or.inl ⟨by rfl, by rintro w ⟨hs1, hs2⟩; go_simp; try rfl⟩) (by assumption) ?_
          simp only [Act.put, List.setIfInBounds_toArray, List.set_cons_zero, List.set_cons_succ]
          refine wpAnyH_takeD (i := 4) (some 56) rfl (by kernel_rfl) (by kernel_rfl) (by kernel_rfl) rfl (fun _ _ _ h => h) (Or.inl ⟨by rfl, by rintro w ⟨hs1, hs2⟩; go_simp; try rfl⟩) (by assumption) ?_
          simp only [Act.put, List.setIfInBounds_toArray, List.set_cons_zero, List.set_cons_succ]
          refine wpAnyH_takeD (i := 5) (some 57) rfl (by kernel_rfl) (by kernel_rfl) (by kernel_rfl) rfl (fun _ _ _ h => h) (Or.inl ⟨by rfl, by rintro w ⟨hs1, hs2⟩; go_simp; try rfl⟩) (by assumption) ?_
          simp only [Act.put, List.setIfInBounds_toArray, List.set_cons_zero, List.set_cons_succ]
          refine wpAnyH_takeD (i := 6) (some 58) rfl (by kernel_rfl) (by kernel_rfl) (by kernel_rfl) rfl (fun _ _ _ h => h) (Or.inl ⟨by rfl, by rintro w ⟨hs1, hs2⟩; go_simp; try rfl⟩) (by assumption) ?_
          simp only [Act.put, List.setIfInBounds_toArray, List.set_cons_zero, List.set_cons_succ]
          refine wpAnyH_takeD (i := 7) (some 59) rfl (by kernel_rfl) (by kernel_rfl) (by kernel_rfl) rfl (fun _ _ _ h => h) (Or.inl ⟨by rfl, by rintro w ⟨hs1, hs2⟩; go_simp; try rfl⟩) (by assumption) ?_
          simp only [Act.put, List.setIfInBounds_toArray, List.set_cons_zero, List.set_cons_succ]
          refine wpAnyH_takeD (i := 8) (some 60) rfl (by kernel_rfl) (by kernel_rfl) (by kernel_rfl) rfl (fun _ _ _ h => h) (Or.inl ⟨by rfl, by rintro w ⟨hs1, hs2⟩; go_simp; try rfl⟩) (by assumption) ?_
          simp only [Act.put, List.setIfInBounds_toArray, List.set_cons_zero, List.set_cons_succ]
          refine wpAnyH_ready (rs := [9]) (by kernel_rfl) (by simp) ?_
          refine AllReadyH.cons rfl (fun K hK => ?_) AllReadyH.nil
          go_simp
          refine crd.mono ?_
          rintro x w6 ⟨rfl, q6⟩
          refine hK.out _ _ ⟨(HS.out _ (HB5.out.trans ((Hbz2.out.trans (q6.mono Hbz2.out.size)).mono HB5.out.size))).1, (HL.out _ (Hbz2.out.trans (q6.mono Hbz2.out.size))).2⟩ (fun hHeld => ?_)
          clear hK
          try simp only [Act.put, List.setIfInBounds_toArray, List.set_cons_zero, List.set_cons_succ]
          refine wpAnyH_takeD (i := 10) (v := Value.tuple #[.string (Y.T pb1), .int .i64 0]) (some 51) rfl (by kernel_rfl) (by kernel_rfl) (by kernel_rfl) rfl (fun _ _ _ h => h) (Or.inl ⟨by rfl, by rintro w ⟨hs1, hs2⟩; go_simp; try rfl⟩) (by assumption) ?_
          simp only [Act.put, List.setIfInBounds_toArray, List.set_cons_zero, List.set_cons_succ]
          refine wpAnyH_takeD (i := 11) (v := Value.string (Y.T pb1)) (some 62) rfl (by kernel_rfl) (by kernel_rfl) (by kernel_rfl) rfl (fun _ _ _ h => h) (Or.inl ⟨by rfl, by rintro w ⟨hs1, hs2⟩; go_simp; try rfl⟩) (by assumption) ?_
          simp only [Act.put, List.setIfInBounds_toArray, List.set_cons_zero, List.set_cons_succ]
          refine wpAnyH_takeD (i := 12) (v := Value.int .i64 0) (some 63) rfl (by kernel_rfl) (by kernel_rfl) (by kernel_rfl) rfl (fun _ _ _ h => h) (Or.inl ⟨by rfl, by rintro w ⟨hs1, hs2⟩; go_simp; try rfl⟩) (by assumption) ?_
          simp only [Act.put, List.setIfInBounds_toArray, List.set_cons_zero, List.set_cons_succ]
          refine wpAnyH_takeD (i := 13) (v := Value.string (Y.T pb1)) (some 7) rfl (by kernel_rfl) (by kernel_rfl) (by kernel_rfl) rfl (fun _ _ _ h => h) (Or.inl ⟨by rfl, by rintro w ⟨hs1, hs2⟩; go_simp; try rfl⟩) (by assumption) ?_
          simp only [Act.put, List.setIfInBounds_toArray, List.set_cons_zero, List.set_cons_succ]
          refine wpAnyH_takeD (i := 14) (v := Value.int .i64 0) (some 8) rfl (by kernel_rfl) (by kernel_rfl) (by kernel_rfl) rfl (fun _ _ _ h => h) (Or.inl ⟨by rfl, by rintro w ⟨hs1, hs2⟩; go_simp; try rfl⟩) (by assumption) ?_
          simp only [Act.put, List.setIfInBounds_toArray, List.set_cons_zero, List.set_cons_succ]
          refine wpAnyH_done (by kernel_rfl) ?_ _
          have hb6 : Below w5.heap.size w5 w6 := Hbz2.out.trans (q6.mono Hbz2.out.size)
          have D6 : Below w6.heap.size w6 w6.drew := ⟨rfl, rfl, rfl, Nat.le_refl _, fun _ _ => rfl⟩
          have hb62 := hb6.trans (D6.mono hb6.size)
          have cfd := HF.out w6.drew pk1 (HB5.out.trans (hb62.mono HB5.out.size)) hk1
          rw [hk3] at cfd
          have Hb62 := Lib.hid hb62
          clear hb6 D6 hb62 q6 crd
          go_upto_region 11 with (fail)
          refine wp_region_held_drew (S := fun W => W.cell? ⟨bk, 1, none⟩ = some (.pointer (some ⟨h, 0, none⟩)) ∧ W.cell? ⟨bk, 2, none⟩ = some (.slice (some ⟨rb, 0, none⟩) 4 4) ∧ W.cell? ⟨rb, q, none⟩ = some (.int .i64 (R q : Int)) ∧ W.cell? ⟨lb, lo + p * 2, none⟩ = some (.int .i64 (pk1 : Int))) (by kernel_rfl) ⟨(HS.out _ (HB5.out.trans (Hb62.out.mono HB5.out.size))).1, (HS.out _ (HB5.out.trans (Hb62.out.mono HB5.out.size))).2.1, (HS.out _ (HB5.out.trans (Hb62.out.mono HB5.out.size))).2.2, (HL.out _ Hb62.out).1⟩ (fun hHeld => ?_)
          refine wpAnyH_takeD (i := 0) (some 65) rfl (by kernel_rfl) (by kernel_rfl) (by kernel_rfl) rfl (fun _ _ _ h => h) (Or.inl ⟨by rfl, by rintro w ⟨hs1, hs2, hs3, hs4⟩; go_simp; try rfl⟩) (by assumption) ?_
          simp only [Act.put, List.setIfInBounds_toArray, List.set_cons_zero, List.set_cons_succ]
          refine wpAnyH_takeD (i := 1) (some 66) rfl (by kernel_rfl) (by kernel_rfl) (by kernel_rfl) rfl (fun _ _ _ h => h) (Or.inl ⟨by rfl, by rintro w ⟨hs1, hs2, hs3, hs4⟩; go_simp; try rfl⟩) (by assumption) ?_
          simp only [Act.put, List.setIfInBounds_toArray, List.set_cons_zero, List.set_cons_succ]
          refine wpAnyH_takeD (i := 2) (some 67) rfl (by kernel_rfl) (by kernel_rfl) (by kernel_rfl) rfl (fun _ _ _ h => h) (Or.inl ⟨by rfl, by rintro w ⟨hs1, hs2, hs3, hs4⟩; go_simp; try rfl⟩) (by assumption) ?_
          simp only [Act.put, List.setIfInBounds_toArray, List.set_cons_zero, List.set_cons_succ]
          refine wpAnyH_takeD (i := 3) (some 68) rfl (by kernel_rfl) (by kernel_rfl) (by kernel_rfl) rfl (fun _ _ _ h => h) (Or.inl ⟨by rfl, by rintro w ⟨hs1, hs2, hs3, hs4⟩; go_simp; try rfl⟩) (by assumption) ?_
          simp only [Act.put, List.setIfInBounds_toArray, List.set_cons_zero, List.set_cons_succ]
          refine wpAnyH_takeD (i := 4) (some 69) rfl (by kernel_rfl) (by kernel_rfl) (by kernel_rfl) rfl (fun _ _ _ h => h) (Or.inl ⟨by rfl, by rintro w ⟨hs1, hs2, hs3, hs4⟩; go_simp; try rfl⟩) (by assumption) ?_
          simp only [Act.put, List.setIfInBounds_toArray, List.set_cons_zero, List.set_cons_succ]
          refine wpAnyH_takeD (i := 5) (some 70) rfl (by kernel_rfl) (by kernel_rfl) (by kernel_rfl) rfl (fun _ _ _ h => h) (Or.inl ⟨by rfl, by rintro w ⟨hs1, hs2, hs3, hs4⟩; go_simp; try rfl⟩) (by assumption) ?_
          simp only [Act.put, List.setIfInBounds_toArray, List.set_cons_zero, List.set_cons_succ]
          refine wpAnyH_takeD (i := 6) (some 71) rfl (by kernel_rfl) (by kernel_rfl) (by kernel_rfl) rfl (fun _ _ _ h => h) (Or.inl ⟨by rfl, by rintro w ⟨hs1, hs2, hs3, hs4⟩; go_simp; try rfl⟩) (by assumption) ?_
          simp only [Act.put, List.setIfInBounds_toArray, List.set_cons_zero, List.set_cons_succ]
          refine wpAnyH_takeD (i := 7) (some 72) rfl (by kernel_rfl) (by kernel_rfl) (by kernel_rfl) rfl (fun _ _ _ h => h) (Or.inl ⟨by rfl, by rintro w ⟨hs1, hs2, hs3, hs4⟩; go_simp; try rfl⟩) (by assumption) ?_
          simp only [Act.put, List.setIfInBounds_toArray, List.set_cons_zero, List.set_cons_succ]
          refine wpAnyH_takeD (i := 8) (some 73) rfl (by kernel_rfl) (by kernel_rfl) (by kernel_rfl) rfl (fun _ _ _ h => h) (Or.inl ⟨by rfl, by rintro w ⟨hs1, hs2, hs3, hs4⟩; go_simp; try rfl⟩) (by assumption) ?_
          simp only [Act.put, List.setIfInBounds_toArray, List.set_cons_zero, List.set_cons_succ]
          refine wpAnyH_takeD (i := 9) (some 74) rfl (by kernel_rfl) (by kernel_rfl) (by kernel_rfl) rfl (fun _ _ _ h => h) (Or.inl ⟨by rfl, by rintro w ⟨hs1, hs2, hs3, hs4⟩; go_simp; try rfl⟩) (by assumption) ?_
          simp only [Act.put, List.setIfInBounds_toArray, List.set_cons_zero, List.set_cons_succ]
          refine wpAnyH_takeD (i := 10) (some 75) rfl (by kernel_rfl) (by kernel_rfl) (by kernel_rfl) rfl (fun _ _ _ h => h) (Or.inl ⟨by rfl, by rintro w ⟨hs1, hs2, hs3, hs4⟩; go_simp; try rfl⟩) (by assumption) ?_
          simp only [Act.put, List.setIfInBounds_toArray, List.set_cons_zero, List.set_cons_succ]
          refine wpAnyH_takeD (i := 11) (some 76) rfl (by kernel_rfl) (by kernel_rfl) (by kernel_rfl) rfl (fun _ _ _ h => h) (Or.inl ⟨by rfl, by rintro w ⟨hs1, hs2, hs3, hs4⟩; go_simp; try rfl⟩) (by assumption) ?_
          simp only [Act.put, List.setIfInBounds_toArray, List.set_cons_zero, List.set_cons_succ]
          refine wpAnyH_takeD (i := 12) (some 77) rfl (by kernel_rfl) (by kernel_rfl) (by kernel_rfl) rfl (fun _ _ _ h => h) (Or.inl ⟨by rfl, by rintro w ⟨hs1, hs2, hs3, hs4⟩; go_simp; try rfl⟩) (by assumption) ?_
          simp only [Act.put, List.setIfInBounds_toArray, List.set_cons_zero, List.set_cons_succ]
          refine wpAnyH_takeD (i := 13) (some 78) rfl (by kernel_rfl) (by kernel_rfl) (by kernel_rfl) rfl (fun _ _ _ h => h) (Or.inl ⟨by rfl, by rintro w ⟨hs1, hs2, hs3, hs4⟩; go_simp; try rfl⟩) (by assumption) ?_
          simp only [Act.put, List.setIfInBounds_toArray, List.set_cons_zero, List.set_cons_succ]
          refine wpAnyH_takeD (i := 14) (some 79) rfl (by kernel_rfl) (by kernel_rfl) (by kernel_rfl) rfl (fun _ _ _ h => h) (Or.inl ⟨by rfl, by rintro w ⟨hs1, hs2, hs3, hs4⟩; go_simp; try rfl⟩) (by assumption) ?_
          simp only [Act.put, List.setIfInBounds_toArray, List.set_cons_zero, List.set_cons_succ]
          refine wpAnyH_takeD (i := 15) (some 80) rfl (by kernel_rfl) (by kernel_rfl) (by kernel_rfl) rfl (fun _ _ _ h => h) (Or.inl ⟨by rfl, by rintro w ⟨hs1, hs2, hs3, hs4⟩; go_simp; try rfl⟩) (by assumption) ?_
          simp only [Act.put, List.setIfInBounds_toArray, List.set_cons_zero, List.set_cons_succ]
          refine wpAnyH_ready (rs := [16]) (by kernel_rfl) (by simp) ?_
          refine AllReadyH.cons rfl (fun K hK => ?_) AllReadyH.nil
          go_simp
          refine cfd.mono ?_
          rintro x w7 ⟨rfl, q7⟩
          refine hK.out _ _ ⟨(HS.out _ (HB5.out.trans ((Hb62.out.trans (q7.mono Hb62.out.size)).mono HB5.out.size))).1, (HS.out _ (HB5.out.trans ((Hb62.out.trans (q7.mono Hb62.out.size)).mono HB5.out.size))).2.1, (HS.out _ (HB5.out.trans ((Hb62.out.trans (q7.mono Hb62.out.size)).mono HB5.out.size))).2.2, (HL.out _ (Hb62.out.trans (q7.mono Hb62.out.size))).1⟩ (fun hHeld => ?_)
          clear hK
          try simp only [Act.put, List.setIfInBounds_toArray, List.set_cons_zero, List.set_cons_succ]
          refine wpAnyH_takeD (i := 17) (v := Value.tuple #[.int .i64 (pb1 : Int), .int .i64 0]) (some 64) rfl (by kernel_rfl) (by kernel_rfl) (by kernel_rfl) rfl (fun _ _ _ h => h) (Or.inl ⟨by rfl, by rintro w ⟨hs1, hs2, hs3, hs4⟩; go_simp; try rfl⟩) (by assumption) ?_
          simp only [Act.put, List.setIfInBounds_toArray, List.set_cons_zero, List.set_cons_succ]
          refine wpAnyH_takeD (i := 18) (v := Value.int .i64 (pb1 : Int)) (some 82) rfl (by kernel_rfl) (by kernel_rfl) (by kernel_rfl) rfl (fun _ _ _ h => h) (Or.inl ⟨by rfl, by rintro w ⟨hs1, hs2, hs3, hs4⟩; go_simp; try rfl⟩) (by assumption) ?_
          simp only [Act.put, List.setIfInBounds_toArray, List.set_cons_zero, List.set_cons_succ]
          refine wpAnyH_takeD (i := 19) (v := Value.int .i64 0) (some 83) rfl (by kernel_rfl) (by kernel_rfl) (by kernel_rfl) rfl (fun _ _ _ h => h) (Or.inl ⟨by rfl, by rintro w ⟨hs1, hs2, hs3, hs4⟩; go_simp; try rfl⟩) (by assumption) ?_
          simp only [Act.put, List.setIfInBounds_toArray, List.set_cons_zero, List.set_cons_succ]
          refine wpAnyH_takeD (i := 20) (v := Value.int .i64 (pb1 : Int)) (some 9) rfl (by kernel_rfl) (by kernel_rfl) (by kernel_rfl) rfl (fun _ _ _ h => h) (Or.inl ⟨by rfl, by rintro w ⟨hs1, hs2, hs3, hs4⟩; go_simp; try rfl⟩) (by assumption) ?_
          simp only [Act.put, List.setIfInBounds_toArray, List.set_cons_zero, List.set_cons_succ]
          refine wpAnyH_takeD (i := 21) (v := Value.int .i64 0) (some 10) rfl (by kernel_rfl) (by kernel_rfl) (by kernel_rfl) rfl (fun _ _ _ h => h) (Or.inl ⟨by rfl, by rintro w ⟨hs1, hs2, hs3, hs4⟩; go_simp; try rfl⟩) (by assumption) ?_
          simp only [Act.put, List.setIfInBounds_toArray, List.set_cons_zero, List.set_cons_succ]
          refine wpAnyH_done (by kernel_rfl) ?_ _
          have hb7 : Below w5.heap.size w5 w7 := Hb62.out.trans (q7.mono Hb62.out.size)
          have B7 := HB5.out.trans (hb7.mono HB5.out.size)
          obtain ⟨k3, k4, kk, kt⟩ := HC.out w7 B7
          obtain ⟨l0, l1⟩ := HL.out w7 hb7
          obtain ⟨e0, e1⟩ := HKT2.out w7 B7
          have Hb7 := Lib.hid hb7
          have ts : ((Y.T pb1).toList == (Y.T pb1).toList) = true := beq_self_eq_true _
          have ts2 : ((Y.T pb1).toList != (Y.T pb1).toList) = false := by simp
          have tk : ((pk1 : Int) != (pk1 : Int)) = false := by simp
          have tb1 : ((pb1 : Int) != (pb1 : Int)) = false := by simp
          clear hb7 B7 q7 cfd
          generalize Y.T pb1 = txt at *
          go_upto_region 12 with (fail)
          go_quiet (fail)
          go_wp2_with (fail)
          go_roundw
          case rel => exact ⟨p + 1, by omega, by go_num, Hb7.out.trans ⟨rfl, rfl, rfl, Nat.le_refl _, fun _ _ => rfl⟩⟩
          case measure => simp [intOf]; omega
        · obtain rfl : p = L.length := by omega
          have z1 : ¬ ((L.length : Int) < (L.length : Int)) := by omega
          have HBz := Lib.hid (HB5.out.trans (hbz.mono HB5.out.size))
          clear hbz
          go_wp2_with (fail)
          go_roundw
          case rel => exact ⟨q + 1, by omega, by go_num, HBz.out⟩
          case measure => simp [intOf]; omega
    · obtain rfl : q = 4 := by omega
      have hfin := Lib.hid hb
      clear hb
      go_wp2_with (fail)
      go_ret
      exact ⟨rfl, hfin.out⟩
end
end Go.Proofs.Ytlbjfigdocbffaa
