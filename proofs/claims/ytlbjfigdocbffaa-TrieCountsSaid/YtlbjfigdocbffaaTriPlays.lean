/- trie: a script is done to trees, and written into the book. -/
import Derived.Test.YtlbjfigdocbffaaTriBk
namespace Go.Proofs.Ytlbjfigdocbffaa
open Go.RowKit
set_option linter.unusedVariables false
set_option linter.unusedSimpArgs false

/-- A script was done. -/
def PlaysG (w : World) (bk rb kb tb h g m : Nat) (u : Value) (e : Ending) (w' : World) : Prop :=
  e = .returned (.bool true) ∧ BTo w g m rb kb tb w' ∧ ∃ Y Z R G lv pos kv tv, Bk w' bk rb kb tb h g m u Y Z R G lv pos kv tv
section
variable {w w' : World} {bk rb kb tb h g m : Nat} {u : Value} {Y0 : Tri.TW ByteArray} {Z0 : Int → Bool} {R0 : Nat → Nat} {G0 : Nat → Prop} {lv0 pos0 : Nat → Nat} {kv0 tv0 : Nat → Value}
set_option maxRecDepth 100000 in
set_option maxHeartbeats 8000000 in
theorem plays_any (B : Bk w bk rb kb tb h g m u Y0 Z0 R0 G0 lv0 pos0 kv0 tv0) (v : Value) (L : List OpR) (hs : ReadsE opE w v L) (hok : ∀ p ∈ L, OpOk p) (hvd : ∀ q, v.ownBlock = some q → q ≠ g ∧ q ≠ m ∧ q ≠ rb ∧ q ≠ kb ∧ q ≠ tb) :
    Calls Try.prog 10 #[.pointer (some ⟨bk, 0, none⟩), v] w (PlaysG w bk rb kb tb h g m u) := by
  obtain ⟨va, vc, rfl, hit⟩ := ReadsE.items hs
  have HIT : Hid (∀ i (hi : i < L.length), ∃ cb co, va = some ⟨cb, co, none⟩ ∧ ∀ W, BTo w g m rb kb tb W → W.cell? ⟨cb, co + i * 4, none⟩ = some (.int .i64 L[i].w) ∧ W.cell? ⟨cb, co + i * 4 + 1, none⟩ = some (.int .i64 L[i].t) ∧ W.cell? ⟨cb, co + i * 4 + 2, none⟩ = some (.int .i64 L[i].k) ∧ W.cell? ⟨cb, co + i * 4 + 3, none⟩ = some (.int .i64 L[i].l)) := Lib.hid fun i hi => by
    obtain ⟨cb, co, e1, e2, e3⟩ := hit i hi
    obtain ⟨d1, d2, d3, d4, d5⟩ := hvd cb (by rw [e1]; rfl)
    have hc : ∀ W, BTo w g m rb kb tb W → ∀ j, W.cell? ⟨cb, j, none⟩ = w.cell? ⟨cb, j, none⟩ := fun W hW j => cell_of_heap (hW.oth cb e2 d1 d2 d3 d4 d5) j
    refine ⟨cb, co, e1, fun W hW => ⟨?_, ?_, ?_, ?_⟩⟩
    · rw [hc W hW]; exact e3 0 (by decide)
    · rw [hc W hW]; exact e3 1 (by decide)
    · rw [hc W hW]; exact e3 2 (by decide)
    · rw [hc W hW]; exact e3 3 (by decide)
  have HOK := Lib.hid hok
  clear hit hs hvd hok
  go_enter Try.func10, Try.ntmps10
  go_wp2_with (fail)
  go_loopw [5, 6, 7, 8, 9, 10, 11, 12, 13, 14, 15] (fun i _ _ _ _ _ _ _ _ _ _ wr => ∃ (q : Nat) (Y : Tri.TW ByteArray) (Z : Int → Bool) (R : Nat → Nat) (G : Nat → Prop) (lv pos : Nat → Nat) (kv tv : Nat → Value), q ≤ L.length ∧ q ≤ 40 ∧ i = .int .i64 (q : Int) ∧ Bk wr bk rb kb tb h g m u Y Z R G lv pos kv tv ∧ BTo w g m rb kb tb wr) (fun i _ _ _ _ _ _ _ _ _ _ _ => 40 - (intOf i).toNat)
  case atStart => exact ⟨0, Y0, Z0, R0, G0, lv0, pos0, kv0, tv0, Nat.zero_le _, Nat.zero_le _, rfl, B, BTo.refl _ _ _ _ _ _⟩
  case round =>
    obtain ⟨q, Y, Z, R, G, lv, pos, kv, tv, hq, hq40, rfl, hb, hB⟩ := hrel
    clear B
    by_cases hlt : q < L.length ∧ q < 40
    · obtain ⟨hl1, hl2⟩ := hlt
      have y1 : (q : Int) < (L.length : Int) := by omega
      have y2 : (q : Int) < 40 := by omega
      obtain ⟨⟨o1, o2⟩, ⟨o3, o4⟩, ⟨o5, o6⟩, ⟨o7, o8⟩⟩ := HOK.out L[q] (List.getElem_mem hl1)
      obtain ⟨cb, co, rfl, hcells⟩ := HIT.out q hl1
      obtain ⟨x0, x1, x2, x3⟩ := hcells wr hB
      generalize L[q] = op at *
      obtain ⟨xw, xt, xk, xl⟩ := op
      dsimp only at o1 o2 o3 o4 o5 o6 o7 o8 x0 x1 x2 x3
      obtain ⟨xb, hxb⟩ : ∃ xb, wr.heap.size = xb := ⟨_, rfl⟩
      obtain ⟨w1, hw1⟩ : ∃ w1, w1 = wr.alloc (.cells #[.int .i64 xw, .int .i64 xt, .int .i64 xk, .int .i64 xl] 62) := ⟨_, rfl⟩
      have q1 : Below wr.heap.size wr w1 := by rw [hw1]; exact (Below.refl _ _).alloc (Nat.le_refl _) _
      have n1 : w1.heap[xb]? = some (.cells #[.int .i64 xw, .int .i64 xt, .int .i64 xk, .int .i64 xl] 62 (0, 0)) := by rw [hw1, ← hxb]; exact heap_alloc_new _ _
      have B1 : BTo w g m rb kb tb w1 := hB.trans (BTo.quiet q1)
      have b1 := hb.below q1
      have HX : Hid (∀ W, BTo w1 g m rb kb tb W → W.heap[xb]? = some (.cells #[.int .i64 xw, .int .i64 xt, .int .i64 xk, .int .i64 xl] 62 (0, 0))) := Lib.hid fun W hW => by
        have h1 := hb.hp.lts g (.inr (.inl rfl)); have h2 := hb.hp.lts m (.inr (.inr (.inl rfl))); have h3 := hb.bw.lts
        rw [hW.oth xb (Array.getElem?_eq_some_iff.1 n1).1 (by omega) (by omega) (by omega) (by omega) (by omega)]; exact n1
      obtain ⟨at_, hat⟩ : ∃ a : Nat, pk xt 4 = (a : Int) := ⟨(pk xt 4).toNat, by have := pk_rng xt 4 (by omega); omega⟩
      have hat4 : at_ < 4 := by have := pk_rng xt 4 (by omega); omega
      have hati : (at_ : Int) < 4 := by omega
      have cpk := pick17_any xt 4 w1 o3 o4 (by decide) (by decide)
      rw [hat] at cpk
      have ckey := key_any xk w1 o5 o6
      have hkey := keyN_lt xk
      generalize keyN xk = key at *
      have xc0 : w1.cell? ⟨xb, 0, none⟩ = some (.int .i64 xw) := by simp [World.cell?, n1]
      have xc1 : w1.cell? ⟨xb, 1, none⟩ = some (.int .i64 xt) := by simp [World.cell?, n1]
      have xc2 : w1.cell? ⟨xb, 2, none⟩ = some (.int .i64 xk) := by simp [World.cell?, n1]
      have HB1 := Lib.hid B1
      have Hb1 := Lib.hid b1
      clear q1 hb B1 b1 hB hcells n1 hat
      go_upto_region 5 with (fail)
      rw [← hw1]
      clear hw1 hxb x0 x1 x2 x3
      go_wp2_with (fail)
      refine cpk.mono ?_
      rintro e w' ⟨rfl, rfl⟩
      go_wp2_with (fail)
      refine ckey.mono ?_
      rintro e w2 ⟨rfl, q2⟩
      have b2 := Hb1.out.below q2
      have B2 : BTo w1 g m rb kb tb w2 := BTo.quiet q2
      have n2 := HX.out w2 B2
      have xd0 : w2.cell? ⟨xb, 0, none⟩ = some (.int .i64 xw) := by simp [World.cell?, n2]
      have c2 := b2.bw.c2
      have cr := b2.bw.cr hat4
      obtain ⟨c, hc⟩ : ∃ c : Nat, pk xw 9 = (c : Int) := ⟨(pk xw 9).toNat, by have := pk_rng xw 9 (by omega); omega⟩
      have hc9 : c < 9 := by have := pk_rng xw 9 (by omega); omega
      have cwh := pick17_any xw 9 w2 o1 o2 (by decide) (by decide)
      rw [hc] at cwh
      have Hb2 := Lib.hid b2
      have HB2 := Lib.hid B2
      clear q2 b2 B2 n2 Hb1 cpk ckey xc0 xc1 xc2 hc
      go_wp2_with (fail)
      refine cwh.mono ?_
      rintro e w' ⟨rfl, rfl⟩
      clear cwh xd0 c2 cr
      have hU : usedTo (cOf Y.σ.c) 240 = usedTo (cOf Y.σ.c) 200 := used240 Hb2.out.hp.small
      have hU2 : usedTo (cOf Y.σ.c) 200 ≤ 200 := used_le _ _
      have cfree := free_any g 200 (cOf Y.σ.c) w2 Hb2.out.hp.t Hb2.out.hp.small
      rw [hU] at cfree
      clear hU
      have ct0 := Hb2.out.bw.c0
      have ct1 := Hb2.out.bw.c1
      rcases (show c = 0 ∨ c = 1 ∨ c = 2 ∨ c = 3 ∨ c = 4 ∨ c = 5 ∨ c = 6 ∨ c = 7 ∨ c = 8 by omega) with rfl | rfl | rfl | rfl | rfl | rfl | rfl | rfl | rfl
      · as_aux_lemma =>
        by_cases hroom : usedTo (cOf Y.σ.c) 200 + 8 ≤ 200
        · have t1 : ¬ ((200 : Int) - ((usedTo (cOf Y.σ.c) 200 : Nat) : Int) < 8) := by omega
          have t2 : decide ((200 : Int) - ((usedTo (cOf Y.σ.c) 200 : Nat) : Int) < 8) = false := decide_eq_false t1
          go_wp2_with (fail)
          refine cfree.mono ?_
          rintro e w3 ⟨rfl, kk, hw3⟩
          have q3 : Below w2.heap.size w2 w3 := by rw [hw3]; exact below_drewN _ _
          have b3 := Hb2.out.below q3
          have B3 := HB2.out.trans (BTo.quiet q3)
          have d0 := b3.bw.c0
          have d1 := b3.bw.c1
          have Hb3 := Lib.hid b3
          have HB3 := Lib.hid B3
          have hA := Lib.hid b3.A
          clear q3 B3 hw3 cfree ct0 ct1 Hb2 HB2
          obtain ⟨t, ht, ht0, htl, t3, r, Y', Z', G', lv', pos', ts', hsb, htf, hset⟩ : ∃ t, t < 200 ∧ cOf Y.σ.c t = 0 ∧ (∀ j, j < t → cOf Y.σ.c j ≠ 0) ∧ 3 ≤ t ∧ ∃ r Y' Z' G' lv' pos', TS 200 Y' (updF R at_ r) G' lv' pos' ∧ SameBut Y Y' R at_ ∧ (∀ k, treeF Y'.σ.e Y'.T r k = if k % 4096 = key then some (blockS xl) else treeF Y.σ.e Y.T (R at_) k) ∧
              ∀ w, Hp w h g m 200 u (cOf (upd Y.σ.c t 1)) (updZ Z (t : Int) true) (updX Y.T t (blockS xl)) → Calls Try.prog 24 #[.pointer (some ⟨h, 0, none⟩), .int .i64 (R at_ : Int), .int .i64 (key : Int), .int .i64 (t : Int)] w (HpG w h g m 200 u (cOf Y'.σ.c) Z' Y'.T (.tuple #[.int .i64 (r : Int), .int .i64 0])) := ts_set_z h g m u Z b3.ts hat4 hkey (blockS xl) (by omega)
          have hts := Lib.hid ts'
          have hbs := blockS_size xl
          have hk4 : Hid (insL key (blockS xl) false (treeL Y.σ.e Y.T (R at_)) = treeL Y'.σ.e Y'.T r) := Lib.hid (ins_tree hkey htf)
          have hko : Hid (∀ i, i < 4 → updF (fun i => treeL Y.σ.e Y.T (R i)) at_ (insL key (blockS xl) false (treeL Y.σ.e Y.T (R at_))) i = treeL Y'.σ.e Y'.T (updF R at_ r i)) := Lib.hid (keysOther hsb hk4.out)
          have cal := alloc_some g 200 (cOf Y.σ.c) w3 b3.hp.t b3.hp.small t ht ht0 htl
          have cbl := Lib.hid (fun W => block_any xl W o7 o8)
          have HSET := Lib.hid hset
          clear hset ts' hsb htf b3
          generalize blockS xl = bs at *
          go_wp2_with (fail)
          refine cal.mono ?_
          rintro e w4 ⟨rfl, T4⟩
          have hp4 : Hp w4 h g m 200 u (cOf (upd Y.σ.c t 1)) Z Y.T := by
            have := Hb3.out.hp.tab T4 (small_upd Hb3.out.hp.small ht (by omega))
            rw [cOf_upd _ t3] at this; exact this
          have bw4 := Hb3.out.bw.to hA.out (HTo.tab (m := m) T4)
          have B4 : BTo w1 g m rb kb tb w4 := HB3.out.trans (BTo.hto (HTo.tab T4))
          have D4 : Below w4.heap.size w4 w4.drew := ⟨rfl, rfl, rfl, Nat.le_refl _, fun _ _ => rfl⟩
          have HS : Hid (∀ W, HTo w4.drew g m W → W.cell? ⟨bk, 1, none⟩ = some (.pointer (some ⟨h, 0, none⟩)) ∧ W.cell? ⟨xb, 3, none⟩ = some (.int .i64 xl)) := Lib.hid fun W hW => ⟨((bw4.below D4).to hA.out hW).c1, by
            have := HX.out W (B4.trans ((BTo.quiet D4).trans (BTo.hto hW)))
            simp [World.cell?, this]⟩
          have cb5 := cbl.out w4.drew
          have hput : Hid (∀ W, Hp W h g m 200 u (cOf (upd Y.σ.c t 1)) Z Y.T → Calls Try.prog 22 #[.pointer (some ⟨h, 0, none⟩), .int .i64 (t : Int), .string bs] W (HpG W h g m 200 u (cOf (upd Y.σ.c t 1)) (updZ Z (t : Int) true) (updX Y.T t bs) (.int .i64 0))) := Lib.hid fun W ⟨F, hW⟩ => put_good hW t t3 ht (by rw [cOf_hi t3]; show 0 < upd _ _ _ _; unfold upd; rw [if_pos rfl]; omega) bs hbs
          have Hp4 := Lib.hid (hp4.below D4)
          have Hw4 := Lib.hid (bw4.below D4)
          have HB4 := Lib.hid (B4.trans (BTo.quiet D4))
          clear T4 hp4 bw4 B4 D4 cal Hb3 HB3 d0 d1
          go_upto_region 20 with (fail)
          refine wp_region_held_drew (S := fun W => W.cell? ⟨bk, 1, none⟩ = some (.pointer (some ⟨h, 0, none⟩)) ∧ W.cell? ⟨xb, 3, none⟩ = some (.int .i64 xl)) (by kernel_rfl) (HS.out _ (HTo.refl _ _ _)) (fun hHeld => ?_)
          refine wpAnyH_takeD (i := 0) (some 83) rfl (by kernel_rfl) (by kernel_rfl) (by kernel_rfl) rfl (fun _ _ _ h => h) (Or.inl ⟨by rfl, by rintro w ⟨hs1, hs2⟩; go_simp; try rfl⟩) (by assumption) ?_
          simp only [Act.put, List.setIfInBounds_toArray, List.set_cons_zero, List.set_cons_succ]
          refine wpAnyH_takeD (i := 1) (some 84) rfl (by kernel_rfl) (by kernel_rfl) (by kernel_rfl) rfl (fun _ _ _ h => h) (Or.inl ⟨by rfl, by rintro w ⟨hs1, hs2⟩; go_simp; try rfl⟩) (by assumption) ?_
          simp only [Act.put, List.setIfInBounds_toArray, List.set_cons_zero, List.set_cons_succ]
          refine wpAnyH_takeD (i := 2) (some 85) rfl (by kernel_rfl) (by kernel_rfl) (by kernel_rfl) rfl (fun _ _ _ h => h) (Or.inl ⟨by rfl, by rintro w ⟨hs1, hs2⟩; go_simp; try rfl⟩) (by assumption) ?_
          simp only [Act.put, List.setIfInBounds_toArray, List.set_cons_zero, List.set_cons_succ]
          refine wpAnyH_takeD (i := 3) (some 86) rfl (by kernel_rfl) (by kernel_rfl) (by kernel_rfl) rfl (fun _ _ _ h => h) (Or.inl ⟨by rfl, by rintro w ⟨hs1, hs2⟩; go_simp; try rfl⟩) (by assumption) ?_
          simp only [Act.put, List.setIfInBounds_toArray, List.set_cons_zero, List.set_cons_succ]
          refine wpAnyH_takeD (i := 4) (some 87) rfl (by kernel_rfl) (by kernel_rfl) (by kernel_rfl) rfl (fun _ _ _ h => h) (Or.inl ⟨by rfl, by rintro w ⟨hs1, hs2⟩; go_simp; try rfl⟩) (by assumption) ?_
          simp only [Act.put, List.setIfInBounds_toArray, List.set_cons_zero, List.set_cons_succ]
          refine wpAnyH_takeD (i := 5) (some 88) rfl (by kernel_rfl) (by kernel_rfl) (by kernel_rfl) rfl (fun _ _ _ h => h) (Or.inl ⟨by rfl, by rintro w ⟨hs1, hs2⟩; go_simp; try rfl⟩) (by assumption) ?_
          simp only [Act.put, List.setIfInBounds_toArray, List.set_cons_zero, List.set_cons_succ]
          refine wpAnyH_takeD (i := 6) (some 89) rfl (by kernel_rfl) (by kernel_rfl) (by kernel_rfl) rfl (fun _ _ _ h => h) (Or.inl ⟨by rfl, by rintro w ⟨hs1, hs2⟩; go_simp; try rfl⟩) (by assumption) ?_
          simp only [Act.put, List.setIfInBounds_toArray, List.set_cons_zero, List.set_cons_succ]
          refine wpAnyH_ready (rs := [7]) (by kernel_rfl) (by simp) ?_
          refine AllReadyH.cons rfl (fun K hK => ?_) AllReadyH.nil
          go_simp
          refine cb5.mono ?_
          rintro x w5 ⟨rfl, q5⟩
          refine hK.out _ _ (HS.out _ (HTo.quiet q5)) (fun hHeld => ?_)
          clear hK
          try simp only [Act.put, List.setIfInBounds_toArray, List.set_cons_zero, List.set_cons_succ]
          have cp6 := hput.out w5 (Hp4.out.below q5)
          have Hq5 := Lib.hid q5
          clear q5 cb5
          refine wpAnyH_ready (rs := [8]) (by kernel_rfl) (by simp) ?_
          refine AllReadyH.cons rfl (fun K hK => ?_) AllReadyH.nil
          go_simp
          refine cp6.mono ?_
          rintro x w6 ⟨rfl, T6, hp6⟩
          have T56 : HTo w4.drew g m w6 := (HTo.quiet Hq5.out).trans T6
          refine hK.out _ _ (HS.out _ T56) (fun hHeld => ?_)
          clear hK
          try simp only [Act.put, List.setIfInBounds_toArray, List.set_cons_zero, List.set_cons_succ]
          refine wpAnyH_takeD (i := 9) (v := Value.int .i64 0) (some 13) rfl (by kernel_rfl) (by kernel_rfl) (by kernel_rfl) rfl (fun _ _ _ h => h) (Or.inl ⟨by rfl, by rintro w ⟨hs1, hs2⟩; go_simp; try rfl⟩) (by assumption) ?_
          simp only [Act.put, List.setIfInBounds_toArray, List.set_cons_zero, List.set_cons_succ]
          refine wpAnyH_done (by kernel_rfl) ?_ _
          have bw6 := Hw4.out.to hA.out T56
          have B6 : BTo w1 g m rb kb tb w6 := HB4.out.trans (BTo.hto T56)
          have d1 := bw6.c1
          have cset := HSET.out w6 hp6
          have Hw6 := Lib.hid bw6
          have HB6 := Lib.hid B6
          clear T6 T56 hp6 bw6 B6 cp6 Hq5 Hw4 HB4 Hp4
          go_wp2_with (fail)
          refine cset.mono ?_
          rintro e w7 ⟨rfl, T7, hp7⟩
          have bw7 := Hw6.out.to hA.out T7
          have B7 : BTo w1 g m rb kb tb w7 := HB6.out.trans (BTo.hto T7)
          have n7 := HX.out w7 B7
          have xl7 : w7.cell? ⟨xb, 3, none⟩ = some (.int .i64 xl) := by simp [World.cell?, n7]
          have cb7 := cbl.out w7
          have Hw7 := Lib.hid bw7
          have HB7 := Lib.hid B7
          have Hp7 := Lib.hid hp7
          clear T7 bw7 B7 n7 hp7 cset Hw6 HB6 d1
          go_wp2_with (fail)
          refine cb7.mono ?_
          rintro e w8 ⟨rfl, q8⟩
          have bw8 := Hw7.out.below q8
          have hp8 := Hp7.out.below q8
          have B8 : BTo w1 g m rb kb tb w8 := HB7.out.trans (BTo.quiet q8)
          have cput := bput_any bw8 hA.out ⟨hp8.lts g (.inr (.inl rfl)), hp8.lts m (.inr (.inr (.inl rfl)))⟩ at_ hat4 key (by omega) bs true (by
            show (insL key bs false (treeL Y.σ.e Y.T (R at_))).length ≤ 4096
            rw [hk4.out]; exact treeL_len _ _ _)
          have Hp8 := Lib.hid hp8
          have HB8 := Lib.hid B8
          clear q8 bw8 hp8 B8 cb7 xl7 Hw7 HB7 Hp7
          go_wp2_with (fail)
          refine cput.mono ?_
          rintro e w9 ⟨rfl, va, vb, bw9, T9⟩
          have hp9 := hp_kto Hp8.out hA.out T9
          have B9 : BTo w1 g m rb kb tb w9 := HB8.out.trans (BTo.kto T9)
          have e2 := bw9.c2
          have er := bw9.cr hat4
          have fr : w9.frozen? ⟨rb, at_, none⟩ = false := frozen_of_row _ _ _ _ _ bw9.r
          have hfin : Hid (Bk (w9.setCell ⟨rb, at_, none⟩ (.int .i64 (r : Int))) bk rb kb tb h g m u Y' Z' (updF R at_ r) G' lv' pos' _ _ ∧ BTo w g m rb kb tb (w9.setCell ⟨rb, at_, none⟩ (.int .i64 (r : Int)))) := Lib.hid ⟨bk_fin bw9 hp9 hA.out hts.out hko.out, HB1.out.trans (B9.trans (BTo.row _ _))⟩
          clear T9 bw9 hp9 B9 cput Hp8 HB8
          go_wp2_with (fail)
          go_roundw
          case rel => exact ⟨q + 1, Y', Z', updF R at_ r, G', lv', pos', _, _, by omega, by omega, by go_num, hfin.out⟩
          case measure => simp [intOf]; omega
        · have t1 : (200 : Int) - ((usedTo (cOf Y.σ.c) 200 : Nat) : Int) < 8 := by omega
          have t2 : decide ((200 : Int) - ((usedTo (cOf Y.σ.c) 200 : Nat) : Int) < 8) = true := decide_eq_true t1
          generalize usedTo (cOf Y.σ.c) 200 = U at *
          go_wp2_with (fail)
          refine cfree.mono ?_
          rintro e w3 ⟨rfl, kk, rfl⟩
          have hfin : Hid (Bk (w2.drewN kk) bk rb kb tb h g m u Y Z R G lv pos kv tv ∧ BTo w g m rb kb tb (w2.drewN kk)) := Lib.hid ⟨Hb2.out.below (below_drewN _ _), HB1.out.trans (HB2.out.trans (BTo.quiet (below_drewN _ _)))⟩
          go_wp2_with (fail)
          go_roundw
          case rel => exact ⟨q + 1, Y, Z, R, G, lv, pos, kv, tv, by omega, by omega, by go_num, hfin.out⟩
          case measure => simp [intOf]; omega
      · as_aux_lemma =>
        by_cases hroom : usedTo (cOf Y.σ.c) 200 + 8 ≤ 200
        · have t1 : ¬ ((200 : Int) - ((usedTo (cOf Y.σ.c) 200 : Nat) : Int) < 8) := by omega
          have t2 : decide ((200 : Int) - ((usedTo (cOf Y.σ.c) 200 : Nat) : Int) < 8) = false := decide_eq_false t1
          go_wp2_with (fail)
          refine cfree.mono ?_
          rintro e w3 ⟨rfl, kk, hw3⟩
          have q3 : Below w2.heap.size w2 w3 := by rw [hw3]; exact below_drewN _ _
          have b3 := Hb2.out.below q3
          have B3 := HB2.out.trans (BTo.quiet q3)
          have d0 := b3.bw.c0
          have d1 := b3.bw.c1
          have Hb3 := Lib.hid b3
          have HB3 := Lib.hid B3
          have hA := Lib.hid b3.A
          clear q3 B3 hw3 cfree ct0 ct1 Hb2 HB2
          obtain ⟨t, ht, ht0, htl, t3, r, Y', Z', G', lv', pos', ts', hsb, htf, hset⟩ : ∃ t, t < 200 ∧ cOf Y.σ.c t = 0 ∧ (∀ j, j < t → cOf Y.σ.c j ≠ 0) ∧ 3 ≤ t ∧ ∃ r Y' Z' G' lv' pos', TS 200 Y' (updF R at_ r) G' lv' pos' ∧ SameBut Y Y' R at_ ∧ (∀ k, treeF Y'.σ.e Y'.T r k = if k % 4096 = key then some (blockS xl) else treeF Y.σ.e Y.T (R at_) k) ∧
              ∀ w, Hp w h g m 200 u (cOf (upd Y.σ.c t 1)) (updZ Z (t : Int) true) (updX Y.T t (blockS xl)) → Calls Try.prog 24 #[.pointer (some ⟨h, 0, none⟩), .int .i64 (R at_ : Int), .int .i64 (key : Int), .int .i64 (t : Int)] w (HpG w h g m 200 u (cOf Y'.σ.c) Z' Y'.T (.tuple #[.int .i64 (r : Int), .int .i64 0])) := ts_set_z h g m u Z b3.ts hat4 hkey (blockS xl) (by omega)
          have hts := Lib.hid ts'
          have hbs := blockS_size xl
          have hk4 : Hid (insL key (blockS xl) false (treeL Y.σ.e Y.T (R at_)) = treeL Y'.σ.e Y'.T r) := Lib.hid (ins_tree hkey htf)
          have hko : Hid (∀ i, i < 4 → updF (fun i => treeL Y.σ.e Y.T (R i)) at_ (insL key (blockS xl) false (treeL Y.σ.e Y.T (R at_))) i = treeL Y'.σ.e Y'.T (updF R at_ r i)) := Lib.hid (keysOther hsb hk4.out)
          have cal := alloc_some g 200 (cOf Y.σ.c) w3 b3.hp.t b3.hp.small t ht ht0 htl
          have cbl := Lib.hid (fun W => block_any xl W o7 o8)
          have HSET := Lib.hid hset
          clear hset ts' hsb htf b3
          generalize blockS xl = bs at *
          go_wp2_with (fail)
          refine cal.mono ?_
          rintro e w4 ⟨rfl, T4⟩
          have hp4 : Hp w4 h g m 200 u (cOf (upd Y.σ.c t 1)) Z Y.T := by
            have := Hb3.out.hp.tab T4 (small_upd Hb3.out.hp.small ht (by omega))
            rw [cOf_upd _ t3] at this; exact this
          have bw4 := Hb3.out.bw.to hA.out (HTo.tab (m := m) T4)
          have B4 : BTo w1 g m rb kb tb w4 := HB3.out.trans (BTo.hto (HTo.tab T4))
          have D4 : Below w4.heap.size w4 w4.drew := ⟨rfl, rfl, rfl, Nat.le_refl _, fun _ _ => rfl⟩
          have HS : Hid (∀ W, HTo w4.drew g m W → W.cell? ⟨bk, 1, none⟩ = some (.pointer (some ⟨h, 0, none⟩)) ∧ W.cell? ⟨xb, 3, none⟩ = some (.int .i64 xl)) := Lib.hid fun W hW => ⟨((bw4.below D4).to hA.out hW).c1, by
            have := HX.out W (B4.trans ((BTo.quiet D4).trans (BTo.hto hW)))
            simp [World.cell?, this]⟩
          have cb5 := cbl.out w4.drew
          have hput : Hid (∀ W, Hp W h g m 200 u (cOf (upd Y.σ.c t 1)) Z Y.T → Calls Try.prog 22 #[.pointer (some ⟨h, 0, none⟩), .int .i64 (t : Int), .string bs] W (HpG W h g m 200 u (cOf (upd Y.σ.c t 1)) (updZ Z (t : Int) true) (updX Y.T t bs) (.int .i64 0))) := Lib.hid fun W ⟨F, hW⟩ => put_good hW t t3 ht (by rw [cOf_hi t3]; show 0 < upd _ _ _ _; unfold upd; rw [if_pos rfl]; omega) bs hbs
          have Hp4 := Lib.hid (hp4.below D4)
          have Hw4 := Lib.hid (bw4.below D4)
          have HB4 := Lib.hid (B4.trans (BTo.quiet D4))
          clear T4 hp4 bw4 B4 D4 cal Hb3 HB3 d0 d1
          go_upto_region 20 with (fail)
          refine wp_region_held_drew (S := fun W => W.cell? ⟨bk, 1, none⟩ = some (.pointer (some ⟨h, 0, none⟩)) ∧ W.cell? ⟨xb, 3, none⟩ = some (.int .i64 xl)) (by kernel_rfl) (HS.out _ (HTo.refl _ _ _)) (fun hHeld => ?_)
          refine wpAnyH_takeD (i := 0) (some 83) rfl (by kernel_rfl) (by kernel_rfl) (by kernel_rfl) rfl (fun _ _ _ h => h) (Or.inl ⟨by rfl, by rintro w ⟨hs1, hs2⟩; go_simp; try rfl⟩) (by assumption) ?_
          simp only [Act.put, List.setIfInBounds_toArray, List.set_cons_zero, List.set_cons_succ]
          refine wpAnyH_takeD (i := 1) (some 84) rfl (by kernel_rfl) (by kernel_rfl) (by kernel_rfl) rfl (fun _ _ _ h => h) (Or.inl ⟨by rfl, by rintro w ⟨hs1, hs2⟩; go_simp; try rfl⟩) (by assumption) ?_
          simp only [Act.put, List.setIfInBounds_toArray, List.set_cons_zero, List.set_cons_succ]
          refine wpAnyH_takeD (i := 2) (some 85) rfl (by kernel_rfl) (by kernel_rfl) (by kernel_rfl) rfl (fun _ _ _ h => h) (Or.inl ⟨by rfl, by rintro w ⟨hs1, hs2⟩; go_simp; try rfl⟩) (by assumption) ?_
          simp only [Act.put, List.setIfInBounds_toArray, List.set_cons_zero, List.set_cons_succ]
          refine wpAnyH_takeD (i := 3) (some 86) rfl (by kernel_rfl) (by kernel_rfl) (by kernel_rfl) rfl (fun _ _ _ h => h) (Or.inl ⟨by rfl, by rintro w ⟨hs1, hs2⟩; go_simp; try rfl⟩) (by assumption) ?_
          simp only [Act.put, List.setIfInBounds_toArray, List.set_cons_zero, List.set_cons_succ]
          refine wpAnyH_takeD (i := 4) (some 87) rfl (by kernel_rfl) (by kernel_rfl) (by kernel_rfl) rfl (fun _ _ _ h => h) (Or.inl ⟨by rfl, by rintro w ⟨hs1, hs2⟩; go_simp; try rfl⟩) (by assumption) ?_
          simp only [Act.put, List.setIfInBounds_toArray, List.set_cons_zero, List.set_cons_succ]
          refine wpAnyH_takeD (i := 5) (some 88) rfl (by kernel_rfl) (by kernel_rfl) (by kernel_rfl) rfl (fun _ _ _ h => h) (Or.inl ⟨by rfl, by rintro w ⟨hs1, hs2⟩; go_simp; try rfl⟩) (by assumption) ?_
          simp only [Act.put, List.setIfInBounds_toArray, List.set_cons_zero, List.set_cons_succ]
          refine wpAnyH_takeD (i := 6) (some 89) rfl (by kernel_rfl) (by kernel_rfl) (by kernel_rfl) rfl (fun _ _ _ h => h) (Or.inl ⟨by rfl, by rintro w ⟨hs1, hs2⟩; go_simp; try rfl⟩) (by assumption) ?_
          simp only [Act.put, List.setIfInBounds_toArray, List.set_cons_zero, List.set_cons_succ]
          refine wpAnyH_ready (rs := [7]) (by kernel_rfl) (by simp) ?_
          refine AllReadyH.cons rfl (fun K hK => ?_) AllReadyH.nil
          go_simp
          refine cb5.mono ?_
          rintro x w5 ⟨rfl, q5⟩
          refine hK.out _ _ (HS.out _ (HTo.quiet q5)) (fun hHeld => ?_)
          clear hK
          try simp only [Act.put, List.setIfInBounds_toArray, List.set_cons_zero, List.set_cons_succ]
          have cp6 := hput.out w5 (Hp4.out.below q5)
          have Hq5 := Lib.hid q5
          clear q5 cb5
          refine wpAnyH_ready (rs := [8]) (by kernel_rfl) (by simp) ?_
          refine AllReadyH.cons rfl (fun K hK => ?_) AllReadyH.nil
          go_simp
          refine cp6.mono ?_
          rintro x w6 ⟨rfl, T6, hp6⟩
          have T56 : HTo w4.drew g m w6 := (HTo.quiet Hq5.out).trans T6
          refine hK.out _ _ (HS.out _ T56) (fun hHeld => ?_)
          clear hK
          try simp only [Act.put, List.setIfInBounds_toArray, List.set_cons_zero, List.set_cons_succ]
          refine wpAnyH_takeD (i := 9) (v := Value.int .i64 0) (some 13) rfl (by kernel_rfl) (by kernel_rfl) (by kernel_rfl) rfl (fun _ _ _ h => h) (Or.inl ⟨by rfl, by rintro w ⟨hs1, hs2⟩; go_simp; try rfl⟩) (by assumption) ?_
          simp only [Act.put, List.setIfInBounds_toArray, List.set_cons_zero, List.set_cons_succ]
          refine wpAnyH_done (by kernel_rfl) ?_ _
          have bw6 := Hw4.out.to hA.out T56
          have B6 : BTo w1 g m rb kb tb w6 := HB4.out.trans (BTo.hto T56)
          have d1 := bw6.c1
          have cset := HSET.out w6 hp6
          have Hw6 := Lib.hid bw6
          have HB6 := Lib.hid B6
          clear T6 T56 hp6 bw6 B6 cp6 Hq5 Hw4 HB4 Hp4
          go_wp2_with (fail)
          refine cset.mono ?_
          rintro e w7 ⟨rfl, T7, hp7⟩
          have bw7 := Hw6.out.to hA.out T7
          have B7 : BTo w1 g m rb kb tb w7 := HB6.out.trans (BTo.hto T7)
          have n7 := HX.out w7 B7
          have xl7 : w7.cell? ⟨xb, 3, none⟩ = some (.int .i64 xl) := by simp [World.cell?, n7]
          have cb7 := cbl.out w7
          have Hw7 := Lib.hid bw7
          have HB7 := Lib.hid B7
          have Hp7 := Lib.hid hp7
          clear T7 bw7 B7 n7 hp7 cset Hw6 HB6 d1
          go_wp2_with (fail)
          refine cb7.mono ?_
          rintro e w8 ⟨rfl, q8⟩
          have bw8 := Hw7.out.below q8
          have hp8 := Hp7.out.below q8
          have B8 : BTo w1 g m rb kb tb w8 := HB7.out.trans (BTo.quiet q8)
          have cput := bput_any bw8 hA.out ⟨hp8.lts g (.inr (.inl rfl)), hp8.lts m (.inr (.inr (.inl rfl)))⟩ at_ hat4 key (by omega) bs true (by
            show (insL key bs false (treeL Y.σ.e Y.T (R at_))).length ≤ 4096
            rw [hk4.out]; exact treeL_len _ _ _)
          have Hp8 := Lib.hid hp8
          have HB8 := Lib.hid B8
          clear q8 bw8 hp8 B8 cb7 xl7 Hw7 HB7 Hp7
          go_wp2_with (fail)
          refine cput.mono ?_
          rintro e w9 ⟨rfl, va, vb, bw9, T9⟩
          have hp9 := hp_kto Hp8.out hA.out T9
          have B9 : BTo w1 g m rb kb tb w9 := HB8.out.trans (BTo.kto T9)
          have e2 := bw9.c2
          have er := bw9.cr hat4
          have fr : w9.frozen? ⟨rb, at_, none⟩ = false := frozen_of_row _ _ _ _ _ bw9.r
          have hfin : Hid (Bk (w9.setCell ⟨rb, at_, none⟩ (.int .i64 (r : Int))) bk rb kb tb h g m u Y' Z' (updF R at_ r) G' lv' pos' _ _ ∧ BTo w g m rb kb tb (w9.setCell ⟨rb, at_, none⟩ (.int .i64 (r : Int)))) := Lib.hid ⟨bk_fin bw9 hp9 hA.out hts.out hko.out, HB1.out.trans (B9.trans (BTo.row _ _))⟩
          clear T9 bw9 hp9 B9 cput Hp8 HB8
          go_wp2_with (fail)
          go_roundw
          case rel => exact ⟨q + 1, Y', Z', updF R at_ r, G', lv', pos', _, _, by omega, by omega, by go_num, hfin.out⟩
          case measure => simp [intOf]; omega
        · have t1 : (200 : Int) - ((usedTo (cOf Y.σ.c) 200 : Nat) : Int) < 8 := by omega
          have t2 : decide ((200 : Int) - ((usedTo (cOf Y.σ.c) 200 : Nat) : Int) < 8) = true := decide_eq_true t1
          generalize usedTo (cOf Y.σ.c) 200 = U at *
          go_wp2_with (fail)
          refine cfree.mono ?_
          rintro e w3 ⟨rfl, kk, rfl⟩
          have hfin : Hid (Bk (w2.drewN kk) bk rb kb tb h g m u Y Z R G lv pos kv tv ∧ BTo w g m rb kb tb (w2.drewN kk)) := Lib.hid ⟨Hb2.out.below (below_drewN _ _), HB1.out.trans (HB2.out.trans (BTo.quiet (below_drewN _ _)))⟩
          go_wp2_with (fail)
          go_roundw
          case rel => exact ⟨q + 1, Y, Z, R, G, lv, pos, kv, tv, by omega, by omega, by go_num, hfin.out⟩
          case measure => simp [intOf]; omega
      · as_aux_lemma =>
        by_cases hroom : usedTo (cOf Y.σ.c) 200 + 8 ≤ 200
        · have t1 : ¬ ((200 : Int) - ((usedTo (cOf Y.σ.c) 200 : Nat) : Int) < 8) := by omega
          have t2 : decide ((200 : Int) - ((usedTo (cOf Y.σ.c) 200 : Nat) : Int) < 8) = false := decide_eq_false t1
          go_wp2_with (fail)
          refine cfree.mono ?_
          rintro e w3 ⟨rfl, kk, hw3⟩
          have q3 : Below w2.heap.size w2 w3 := by rw [hw3]; exact below_drewN _ _
          have b3 := Hb2.out.below q3
          have B3 := HB2.out.trans (BTo.quiet q3)
          have d0 := b3.bw.c0
          have d1 := b3.bw.c1
          have Hb3 := Lib.hid b3
          have HB3 := Lib.hid B3
          have hA := Lib.hid b3.A
          clear q3 B3 hw3 cfree ct0 ct1 Hb2 HB2
          obtain ⟨t, ht, ht0, htl, t3, r, Y', Z', G', lv', pos', ts', hsb, htf, hset⟩ : ∃ t, t < 200 ∧ cOf Y.σ.c t = 0 ∧ (∀ j, j < t → cOf Y.σ.c j ≠ 0) ∧ 3 ≤ t ∧ ∃ r Y' Z' G' lv' pos', TS 200 Y' (updF R at_ r) G' lv' pos' ∧ SameBut Y Y' R at_ ∧ (∀ k, treeF Y'.σ.e Y'.T r k = if k % 4096 = key then some (blockS xl) else treeF Y.σ.e Y.T (R at_) k) ∧
              ∀ w, Hp w h g m 200 u (cOf (upd Y.σ.c t 1)) (updZ Z (t : Int) true) (updX Y.T t (blockS xl)) → Calls Try.prog 24 #[.pointer (some ⟨h, 0, none⟩), .int .i64 (R at_ : Int), .int .i64 (key : Int), .int .i64 (t : Int)] w (HpG w h g m 200 u (cOf Y'.σ.c) Z' Y'.T (.tuple #[.int .i64 (r : Int), .int .i64 0])) := ts_set_z h g m u Z b3.ts hat4 hkey (blockS xl) (by omega)
          have hts := Lib.hid ts'
          have hbs := blockS_size xl
          have hk4 : Hid (insL key (blockS xl) false (treeL Y.σ.e Y.T (R at_)) = treeL Y'.σ.e Y'.T r) := Lib.hid (ins_tree hkey htf)
          have hko : Hid (∀ i, i < 4 → updF (fun i => treeL Y.σ.e Y.T (R i)) at_ (insL key (blockS xl) false (treeL Y.σ.e Y.T (R at_))) i = treeL Y'.σ.e Y'.T (updF R at_ r i)) := Lib.hid (keysOther hsb hk4.out)
          have cal := alloc_some g 200 (cOf Y.σ.c) w3 b3.hp.t b3.hp.small t ht ht0 htl
          have cbl := Lib.hid (fun W => block_any xl W o7 o8)
          have HSET := Lib.hid hset
          clear hset ts' hsb htf b3
          generalize blockS xl = bs at *
          go_wp2_with (fail)
          refine cal.mono ?_
          rintro e w4 ⟨rfl, T4⟩
          have hp4 : Hp w4 h g m 200 u (cOf (upd Y.σ.c t 1)) Z Y.T := by
            have := Hb3.out.hp.tab T4 (small_upd Hb3.out.hp.small ht (by omega))
            rw [cOf_upd _ t3] at this; exact this
          have bw4 := Hb3.out.bw.to hA.out (HTo.tab (m := m) T4)
          have B4 : BTo w1 g m rb kb tb w4 := HB3.out.trans (BTo.hto (HTo.tab T4))
          have D4 : Below w4.heap.size w4 w4.drew := ⟨rfl, rfl, rfl, Nat.le_refl _, fun _ _ => rfl⟩
          have HS : Hid (∀ W, HTo w4.drew g m W → W.cell? ⟨bk, 1, none⟩ = some (.pointer (some ⟨h, 0, none⟩)) ∧ W.cell? ⟨xb, 3, none⟩ = some (.int .i64 xl)) := Lib.hid fun W hW => ⟨((bw4.below D4).to hA.out hW).c1, by
            have := HX.out W (B4.trans ((BTo.quiet D4).trans (BTo.hto hW)))
            simp [World.cell?, this]⟩
          have cb5 := cbl.out w4.drew
          have hput : Hid (∀ W, Hp W h g m 200 u (cOf (upd Y.σ.c t 1)) Z Y.T → Calls Try.prog 22 #[.pointer (some ⟨h, 0, none⟩), .int .i64 (t : Int), .string bs] W (HpG W h g m 200 u (cOf (upd Y.σ.c t 1)) (updZ Z (t : Int) true) (updX Y.T t bs) (.int .i64 0))) := Lib.hid fun W ⟨F, hW⟩ => put_good hW t t3 ht (by rw [cOf_hi t3]; show 0 < upd _ _ _ _; unfold upd; rw [if_pos rfl]; omega) bs hbs
          have Hp4 := Lib.hid (hp4.below D4)
          have Hw4 := Lib.hid (bw4.below D4)
          have HB4 := Lib.hid (B4.trans (BTo.quiet D4))
          clear T4 hp4 bw4 B4 D4 cal Hb3 HB3 d0 d1
          go_upto_region 20 with (fail)
          refine wp_region_held_drew (S := fun W => W.cell? ⟨bk, 1, none⟩ = some (.pointer (some ⟨h, 0, none⟩)) ∧ W.cell? ⟨xb, 3, none⟩ = some (.int .i64 xl)) (by kernel_rfl) (HS.out _ (HTo.refl _ _ _)) (fun hHeld => ?_)
          refine wpAnyH_takeD (i := 0) (some 83) rfl (by kernel_rfl) (by kernel_rfl) (by kernel_rfl) rfl (fun _ _ _ h => h) (Or.inl ⟨by rfl, by rintro w ⟨hs1, hs2⟩; go_simp; try rfl⟩) (by assumption) ?_
          simp only [Act.put, List.setIfInBounds_toArray, List.set_cons_zero, List.set_cons_succ]
          refine wpAnyH_takeD (i := 1) (some 84) rfl (by kernel_rfl) (by kernel_rfl) (by kernel_rfl) rfl (fun _ _ _ h => h) (Or.inl ⟨by rfl, by rintro w ⟨hs1, hs2⟩; go_simp; try rfl⟩) (by assumption) ?_
          simp only [Act.put, List.setIfInBounds_toArray, List.set_cons_zero, List.set_cons_succ]
          refine wpAnyH_takeD (i := 2) (some 85) rfl (by kernel_rfl) (by kernel_rfl) (by kernel_rfl) rfl (fun _ _ _ h => h) (Or.inl ⟨by rfl, by rintro w ⟨hs1, hs2⟩; go_simp; try rfl⟩) (by assumption) ?_
          simp only [Act.put, List.setIfInBounds_toArray, List.set_cons_zero, List.set_cons_succ]
          refine wpAnyH_takeD (i := 3) (some 86) rfl (by kernel_rfl) (by kernel_rfl) (by kernel_rfl) rfl (fun _ _ _ h => h) (Or.inl ⟨by rfl, by rintro w ⟨hs1, hs2⟩; go_simp; try rfl⟩) (by assumption) ?_
          simp only [Act.put, List.setIfInBounds_toArray, List.set_cons_zero, List.set_cons_succ]
          refine wpAnyH_takeD (i := 4) (some 87) rfl (by kernel_rfl) (by kernel_rfl) (by kernel_rfl) rfl (fun _ _ _ h => h) (Or.inl ⟨by rfl, by rintro w ⟨hs1, hs2⟩; go_simp; try rfl⟩) (by assumption) ?_
          simp only [Act.put, List.setIfInBounds_toArray, List.set_cons_zero, List.set_cons_succ]
          refine wpAnyH_takeD (i := 5) (some 88) rfl (by kernel_rfl) (by kernel_rfl) (by kernel_rfl) rfl (fun _ _ _ h => h) (Or.inl ⟨by rfl, by rintro w ⟨hs1, hs2⟩; go_simp; try rfl⟩) (by assumption) ?_
          simp only [Act.put, List.setIfInBounds_toArray, List.set_cons_zero, List.set_cons_succ]
          refine wpAnyH_takeD (i := 6) (some 89) rfl (by kernel_rfl) (by kernel_rfl) (by kernel_rfl) rfl (fun _ _ _ h => h) (Or.inl ⟨by rfl, by rintro w ⟨hs1, hs2⟩; go_simp; try rfl⟩) (by assumption) ?_
          simp only [Act.put, List.setIfInBounds_toArray, List.set_cons_zero, List.set_cons_succ]
          refine wpAnyH_ready (rs := [7]) (by kernel_rfl) (by simp) ?_
          refine AllReadyH.cons rfl (fun K hK => ?_) AllReadyH.nil
          go_simp
          refine cb5.mono ?_
          rintro x w5 ⟨rfl, q5⟩
          refine hK.out _ _ (HS.out _ (HTo.quiet q5)) (fun hHeld => ?_)
          clear hK
          try simp only [Act.put, List.setIfInBounds_toArray, List.set_cons_zero, List.set_cons_succ]
          have cp6 := hput.out w5 (Hp4.out.below q5)
          have Hq5 := Lib.hid q5
          clear q5 cb5
          refine wpAnyH_ready (rs := [8]) (by kernel_rfl) (by simp) ?_
          refine AllReadyH.cons rfl (fun K hK => ?_) AllReadyH.nil
          go_simp
          refine cp6.mono ?_
          rintro x w6 ⟨rfl, T6, hp6⟩
          have T56 : HTo w4.drew g m w6 := (HTo.quiet Hq5.out).trans T6
          refine hK.out _ _ (HS.out _ T56) (fun hHeld => ?_)
          clear hK
          try simp only [Act.put, List.setIfInBounds_toArray, List.set_cons_zero, List.set_cons_succ]
          refine wpAnyH_takeD (i := 9) (v := Value.int .i64 0) (some 13) rfl (by kernel_rfl) (by kernel_rfl) (by kernel_rfl) rfl (fun _ _ _ h => h) (Or.inl ⟨by rfl, by rintro w ⟨hs1, hs2⟩; go_simp; try rfl⟩) (by assumption) ?_
          simp only [Act.put, List.setIfInBounds_toArray, List.set_cons_zero, List.set_cons_succ]
          refine wpAnyH_done (by kernel_rfl) ?_ _
          have bw6 := Hw4.out.to hA.out T56
          have B6 : BTo w1 g m rb kb tb w6 := HB4.out.trans (BTo.hto T56)
          have d1 := bw6.c1
          have cset := HSET.out w6 hp6
          have Hw6 := Lib.hid bw6
          have HB6 := Lib.hid B6
          clear T6 T56 hp6 bw6 B6 cp6 Hq5 Hw4 HB4 Hp4
          go_wp2_with (fail)
          refine cset.mono ?_
          rintro e w7 ⟨rfl, T7, hp7⟩
          have bw7 := Hw6.out.to hA.out T7
          have B7 : BTo w1 g m rb kb tb w7 := HB6.out.trans (BTo.hto T7)
          have n7 := HX.out w7 B7
          have xl7 : w7.cell? ⟨xb, 3, none⟩ = some (.int .i64 xl) := by simp [World.cell?, n7]
          have cb7 := cbl.out w7
          have Hw7 := Lib.hid bw7
          have HB7 := Lib.hid B7
          have Hp7 := Lib.hid hp7
          clear T7 bw7 B7 n7 hp7 cset Hw6 HB6 d1
          go_wp2_with (fail)
          refine cb7.mono ?_
          rintro e w8 ⟨rfl, q8⟩
          have bw8 := Hw7.out.below q8
          have hp8 := Hp7.out.below q8
          have B8 : BTo w1 g m rb kb tb w8 := HB7.out.trans (BTo.quiet q8)
          have cput := bput_any bw8 hA.out ⟨hp8.lts g (.inr (.inl rfl)), hp8.lts m (.inr (.inr (.inl rfl)))⟩ at_ hat4 key (by omega) bs true (by
            show (insL key bs false (treeL Y.σ.e Y.T (R at_))).length ≤ 4096
            rw [hk4.out]; exact treeL_len _ _ _)
          have Hp8 := Lib.hid hp8
          have HB8 := Lib.hid B8
          clear q8 bw8 hp8 B8 cb7 xl7 Hw7 HB7 Hp7
          go_wp2_with (fail)
          refine cput.mono ?_
          rintro e w9 ⟨rfl, va, vb, bw9, T9⟩
          have hp9 := hp_kto Hp8.out hA.out T9
          have B9 : BTo w1 g m rb kb tb w9 := HB8.out.trans (BTo.kto T9)
          have e2 := bw9.c2
          have er := bw9.cr hat4
          have fr : w9.frozen? ⟨rb, at_, none⟩ = false := frozen_of_row _ _ _ _ _ bw9.r
          have hfin : Hid (Bk (w9.setCell ⟨rb, at_, none⟩ (.int .i64 (r : Int))) bk rb kb tb h g m u Y' Z' (updF R at_ r) G' lv' pos' _ _ ∧ BTo w g m rb kb tb (w9.setCell ⟨rb, at_, none⟩ (.int .i64 (r : Int)))) := Lib.hid ⟨bk_fin bw9 hp9 hA.out hts.out hko.out, HB1.out.trans (B9.trans (BTo.row _ _))⟩
          clear T9 bw9 hp9 B9 cput Hp8 HB8
          go_wp2_with (fail)
          go_roundw
          case rel => exact ⟨q + 1, Y', Z', updF R at_ r, G', lv', pos', _, _, by omega, by omega, by go_num, hfin.out⟩
          case measure => simp [intOf]; omega
        · have t1 : (200 : Int) - ((usedTo (cOf Y.σ.c) 200 : Nat) : Int) < 8 := by omega
          have t2 : decide ((200 : Int) - ((usedTo (cOf Y.σ.c) 200 : Nat) : Int) < 8) = true := decide_eq_true t1
          generalize usedTo (cOf Y.σ.c) 200 = U at *
          go_wp2_with (fail)
          refine cfree.mono ?_
          rintro e w3 ⟨rfl, kk, rfl⟩
          have hfin : Hid (Bk (w2.drewN kk) bk rb kb tb h g m u Y Z R G lv pos kv tv ∧ BTo w g m rb kb tb (w2.drewN kk)) := Lib.hid ⟨Hb2.out.below (below_drewN _ _), HB1.out.trans (HB2.out.trans (BTo.quiet (below_drewN _ _)))⟩
          go_wp2_with (fail)
          go_roundw
          case rel => exact ⟨q + 1, Y, Z, R, G, lv, pos, kv, tv, by omega, by omega, by go_num, hfin.out⟩
          case measure => simp [intOf]; omega
      · as_aux_lemma =>
        by_cases hroom : usedTo (cOf Y.σ.c) 200 + 8 ≤ 200
        · have t1 : ¬ ((200 : Int) - ((usedTo (cOf Y.σ.c) 200 : Nat) : Int) < 8) := by omega
          have t2 : decide ((200 : Int) - ((usedTo (cOf Y.σ.c) 200 : Nat) : Int) < 8) = false := decide_eq_false t1
          go_wp2_with (fail)
          refine cfree.mono ?_
          rintro e w3 ⟨rfl, kk, hw3⟩
          have q3 : Below w2.heap.size w2 w3 := by rw [hw3]; exact below_drewN _ _
          have b3 := Hb2.out.below q3
          have B3 := HB2.out.trans (BTo.quiet q3)
          have d0 := b3.bw.c0
          have d1 := b3.bw.c1
          have Hb3 := Lib.hid b3
          have HB3 := Lib.hid B3
          have hA := Lib.hid b3.A
          clear q3 B3 hw3 cfree ct0 ct1 Hb2 HB2
          obtain ⟨t, ht, ht0, htl, t3, r, Y', Z', G', lv', pos', ts', hsb, htf, hset⟩ : ∃ t, t < 200 ∧ cOf Y.σ.c t = 0 ∧ (∀ j, j < t → cOf Y.σ.c j ≠ 0) ∧ 3 ≤ t ∧ ∃ r Y' Z' G' lv' pos', TS 200 Y' (updF R at_ r) G' lv' pos' ∧ SameBut Y Y' R at_ ∧ (∀ k, treeF Y'.σ.e Y'.T r k = if k % 4096 = key then some (blockS xl) else treeF Y.σ.e Y.T (R at_) k) ∧
              ∀ w, Hp w h g m 200 u (cOf (upd Y.σ.c t 1)) (updZ Z (t : Int) true) (updX Y.T t (blockS xl)) → Calls Try.prog 24 #[.pointer (some ⟨h, 0, none⟩), .int .i64 (R at_ : Int), .int .i64 (key : Int), .int .i64 (t : Int)] w (HpG w h g m 200 u (cOf Y'.σ.c) Z' Y'.T (.tuple #[.int .i64 (r : Int), .int .i64 0])) := ts_set_z h g m u Z b3.ts hat4 hkey (blockS xl) (by omega)
          have hts := Lib.hid ts'
          have hbs := blockS_size xl
          have hk4 : Hid (insL key (blockS xl) false (treeL Y.σ.e Y.T (R at_)) = treeL Y'.σ.e Y'.T r) := Lib.hid (ins_tree hkey htf)
          have hko : Hid (∀ i, i < 4 → updF (fun i => treeL Y.σ.e Y.T (R i)) at_ (insL key (blockS xl) false (treeL Y.σ.e Y.T (R at_))) i = treeL Y'.σ.e Y'.T (updF R at_ r i)) := Lib.hid (keysOther hsb hk4.out)
          have cal := alloc_some g 200 (cOf Y.σ.c) w3 b3.hp.t b3.hp.small t ht ht0 htl
          have cbl := Lib.hid (fun W => block_any xl W o7 o8)
          have HSET := Lib.hid hset
          clear hset ts' hsb htf b3
          generalize blockS xl = bs at *
          go_wp2_with (fail)
          refine cal.mono ?_
          rintro e w4 ⟨rfl, T4⟩
          have hp4 : Hp w4 h g m 200 u (cOf (upd Y.σ.c t 1)) Z Y.T := by
            have := Hb3.out.hp.tab T4 (small_upd Hb3.out.hp.small ht (by omega))
            rw [cOf_upd _ t3] at this; exact this
          have bw4 := Hb3.out.bw.to hA.out (HTo.tab (m := m) T4)
          have B4 : BTo w1 g m rb kb tb w4 := HB3.out.trans (BTo.hto (HTo.tab T4))
          have D4 : Below w4.heap.size w4 w4.drew := ⟨rfl, rfl, rfl, Nat.le_refl _, fun _ _ => rfl⟩
          have HS : Hid (∀ W, HTo w4.drew g m W → W.cell? ⟨bk, 1, none⟩ = some (.pointer (some ⟨h, 0, none⟩)) ∧ W.cell? ⟨xb, 3, none⟩ = some (.int .i64 xl)) := Lib.hid fun W hW => ⟨((bw4.below D4).to hA.out hW).c1, by
            have := HX.out W (B4.trans ((BTo.quiet D4).trans (BTo.hto hW)))
            simp [World.cell?, this]⟩
          have cb5 := cbl.out w4.drew
          have hput : Hid (∀ W, Hp W h g m 200 u (cOf (upd Y.σ.c t 1)) Z Y.T → Calls Try.prog 22 #[.pointer (some ⟨h, 0, none⟩), .int .i64 (t : Int), .string bs] W (HpG W h g m 200 u (cOf (upd Y.σ.c t 1)) (updZ Z (t : Int) true) (updX Y.T t bs) (.int .i64 0))) := Lib.hid fun W ⟨F, hW⟩ => put_good hW t t3 ht (by rw [cOf_hi t3]; show 0 < upd _ _ _ _; unfold upd; rw [if_pos rfl]; omega) bs hbs
          have Hp4 := Lib.hid (hp4.below D4)
          have Hw4 := Lib.hid (bw4.below D4)
          have HB4 := Lib.hid (B4.trans (BTo.quiet D4))
          clear T4 hp4 bw4 B4 D4 cal Hb3 HB3 d0 d1
          go_upto_region 20 with (fail)
          refine wp_region_held_drew (S := fun W => W.cell? ⟨bk, 1, none⟩ = some (.pointer (some ⟨h, 0, none⟩)) ∧ W.cell? ⟨xb, 3, none⟩ = some (.int .i64 xl)) (by kernel_rfl) (HS.out _ (HTo.refl _ _ _)) (fun hHeld => ?_)
          refine wpAnyH_takeD (i := 0) (some 83) rfl (by kernel_rfl) (by kernel_rfl) (by kernel_rfl) rfl (fun _ _ _ h => h) (Or.inl ⟨by rfl, by rintro w ⟨hs1, hs2⟩; go_simp; try rfl⟩) (by assumption) ?_
          simp only [Act.put, List.setIfInBounds_toArray, List.set_cons_zero, List.set_cons_succ]
          refine wpAnyH_takeD (i := 1) (some 84) rfl (by kernel_rfl) (by kernel_rfl) (by kernel_rfl) rfl (fun _ _ _ h => h) (Or.inl ⟨by rfl, by rintro w ⟨hs1, hs2⟩; go_simp; try rfl⟩) (by assumption) ?_
          simp only [Act.put, List.setIfInBounds_toArray, List.set_cons_zero, List.set_cons_succ]
          refine wpAnyH_takeD (i := 2) (some 85) rfl (by kernel_rfl) (by kernel_rfl) (by kernel_rfl) rfl (fun _ _ _ h => h) (Or.inl ⟨by rfl, by rintro w ⟨hs1, hs2⟩; go_simp; try rfl⟩) (by assumption) ?_
          simp only [Act.put, List.setIfInBounds_toArray, List.set_cons_zero, List.set_cons_succ]
          refine wpAnyH_takeD (i := 3) (some 86) rfl (by kernel_rfl) (by kernel_rfl) (by kernel_rfl) rfl (fun _ _ _ h => h) (Or.inl ⟨by rfl, by rintro w ⟨hs1, hs2⟩; go_simp; try rfl⟩) (by assumption) ?_
          simp only [Act.put, List.setIfInBounds_toArray, List.set_cons_zero, List.set_cons_succ]
          refine wpAnyH_takeD (i := 4) (some 87) rfl (by kernel_rfl) (by kernel_rfl) (by kernel_rfl) rfl (fun _ _ _ h => h) (Or.inl ⟨by rfl, by rintro w ⟨hs1, hs2⟩; go_simp; try rfl⟩) (by assumption) ?_
          simp only [Act.put, List.setIfInBounds_toArray, List.set_cons_zero, List.set_cons_succ]
          refine wpAnyH_takeD (i := 5) (some 88) rfl (by kernel_rfl) (by kernel_rfl) (by kernel_rfl) rfl (fun _ _ _ h => h) (Or.inl ⟨by rfl, by rintro w ⟨hs1, hs2⟩; go_simp; try rfl⟩) (by assumption) ?_
          simp only [Act.put, List.setIfInBounds_toArray, List.set_cons_zero, List.set_cons_succ]
          refine wpAnyH_takeD (i := 6) (some 89) rfl (by kernel_rfl) (by kernel_rfl) (by kernel_rfl) rfl (fun _ _ _ h => h) (Or.inl ⟨by rfl, by rintro w ⟨hs1, hs2⟩; go_simp; try rfl⟩) (by assumption) ?_
          simp only [Act.put, List.setIfInBounds_toArray, List.set_cons_zero, List.set_cons_succ]
          refine wpAnyH_ready (rs := [7]) (by kernel_rfl) (by simp) ?_
          refine AllReadyH.cons rfl (fun K hK => ?_) AllReadyH.nil
          go_simp
          refine cb5.mono ?_
          rintro x w5 ⟨rfl, q5⟩
          refine hK.out _ _ (HS.out _ (HTo.quiet q5)) (fun hHeld => ?_)
          clear hK
          try simp only [Act.put, List.setIfInBounds_toArray, List.set_cons_zero, List.set_cons_succ]
          have cp6 := hput.out w5 (Hp4.out.below q5)
          have Hq5 := Lib.hid q5
          clear q5 cb5
          refine wpAnyH_ready (rs := [8]) (by kernel_rfl) (by simp) ?_
          refine AllReadyH.cons rfl (fun K hK => ?_) AllReadyH.nil
          go_simp
          refine cp6.mono ?_
          rintro x w6 ⟨rfl, T6, hp6⟩
          have T56 : HTo w4.drew g m w6 := (HTo.quiet Hq5.out).trans T6
          refine hK.out _ _ (HS.out _ T56) (fun hHeld => ?_)
          clear hK
          try simp only [Act.put, List.setIfInBounds_toArray, List.set_cons_zero, List.set_cons_succ]
          refine wpAnyH_takeD (i := 9) (v := Value.int .i64 0) (some 13) rfl (by kernel_rfl) (by kernel_rfl) (by kernel_rfl) rfl (fun _ _ _ h => h) (Or.inl ⟨by rfl, by rintro w ⟨hs1, hs2⟩; go_simp; try rfl⟩) (by assumption) ?_
          simp only [Act.put, List.setIfInBounds_toArray, List.set_cons_zero, List.set_cons_succ]
          refine wpAnyH_done (by kernel_rfl) ?_ _
          have bw6 := Hw4.out.to hA.out T56
          have B6 : BTo w1 g m rb kb tb w6 := HB4.out.trans (BTo.hto T56)
          have d1 := bw6.c1
          have cset := HSET.out w6 hp6
          have Hw6 := Lib.hid bw6
          have HB6 := Lib.hid B6
          clear T6 T56 hp6 bw6 B6 cp6 Hq5 Hw4 HB4 Hp4
          go_wp2_with (fail)
          refine cset.mono ?_
          rintro e w7 ⟨rfl, T7, hp7⟩
          have bw7 := Hw6.out.to hA.out T7
          have B7 : BTo w1 g m rb kb tb w7 := HB6.out.trans (BTo.hto T7)
          have n7 := HX.out w7 B7
          have xl7 : w7.cell? ⟨xb, 3, none⟩ = some (.int .i64 xl) := by simp [World.cell?, n7]
          have cb7 := cbl.out w7
          have Hw7 := Lib.hid bw7
          have HB7 := Lib.hid B7
          have Hp7 := Lib.hid hp7
          clear T7 bw7 B7 n7 hp7 cset Hw6 HB6 d1
          go_wp2_with (fail)
          refine cb7.mono ?_
          rintro e w8 ⟨rfl, q8⟩
          have bw8 := Hw7.out.below q8
          have hp8 := Hp7.out.below q8
          have B8 : BTo w1 g m rb kb tb w8 := HB7.out.trans (BTo.quiet q8)
          have cput := bput_any bw8 hA.out ⟨hp8.lts g (.inr (.inl rfl)), hp8.lts m (.inr (.inr (.inl rfl)))⟩ at_ hat4 key (by omega) bs true (by
            show (insL key bs false (treeL Y.σ.e Y.T (R at_))).length ≤ 4096
            rw [hk4.out]; exact treeL_len _ _ _)
          have Hp8 := Lib.hid hp8
          have HB8 := Lib.hid B8
          clear q8 bw8 hp8 B8 cb7 xl7 Hw7 HB7 Hp7
          go_wp2_with (fail)
          refine cput.mono ?_
          rintro e w9 ⟨rfl, va, vb, bw9, T9⟩
          have hp9 := hp_kto Hp8.out hA.out T9
          have B9 : BTo w1 g m rb kb tb w9 := HB8.out.trans (BTo.kto T9)
          have e2 := bw9.c2
          have er := bw9.cr hat4
          have fr : w9.frozen? ⟨rb, at_, none⟩ = false := frozen_of_row _ _ _ _ _ bw9.r
          have hfin : Hid (Bk (w9.setCell ⟨rb, at_, none⟩ (.int .i64 (r : Int))) bk rb kb tb h g m u Y' Z' (updF R at_ r) G' lv' pos' _ _ ∧ BTo w g m rb kb tb (w9.setCell ⟨rb, at_, none⟩ (.int .i64 (r : Int)))) := Lib.hid ⟨bk_fin bw9 hp9 hA.out hts.out hko.out, HB1.out.trans (B9.trans (BTo.row _ _))⟩
          clear T9 bw9 hp9 B9 cput Hp8 HB8
          go_wp2_with (fail)
          go_roundw
          case rel => exact ⟨q + 1, Y', Z', updF R at_ r, G', lv', pos', _, _, by omega, by omega, by go_num, hfin.out⟩
          case measure => simp [intOf]; omega
        · have t1 : (200 : Int) - ((usedTo (cOf Y.σ.c) 200 : Nat) : Int) < 8 := by omega
          have t2 : decide ((200 : Int) - ((usedTo (cOf Y.σ.c) 200 : Nat) : Int) < 8) = true := decide_eq_true t1
          generalize usedTo (cOf Y.σ.c) 200 = U at *
          go_wp2_with (fail)
          refine cfree.mono ?_
          rintro e w3 ⟨rfl, kk, rfl⟩
          have hfin : Hid (Bk (w2.drewN kk) bk rb kb tb h g m u Y Z R G lv pos kv tv ∧ BTo w g m rb kb tb (w2.drewN kk)) := Lib.hid ⟨Hb2.out.below (below_drewN _ _), HB1.out.trans (HB2.out.trans (BTo.quiet (below_drewN _ _)))⟩
          go_wp2_with (fail)
          go_roundw
          case rel => exact ⟨q + 1, Y, Z, R, G, lv, pos, kv, tv, by omega, by omega, by go_num, hfin.out⟩
          case measure => simp [intOf]; omega
      · as_aux_lemma =>
        by_cases hroom : usedTo (cOf Y.σ.c) 200 + 4 ≤ 200
        · have t1 : ¬ ((200 : Int) - ((usedTo (cOf Y.σ.c) 200 : Nat) : Int) < 4) := by omega
          have t2 : decide ((200 : Int) - ((usedTo (cOf Y.σ.c) 200 : Nat) : Int) < 4) = false := decide_eq_false t1
          go_wp2_with (fail)
          refine cfree.mono ?_
          rintro e w3 ⟨rfl, kk, hw3⟩
          have q3 : Below w2.heap.size w2 w3 := by rw [hw3]; exact below_drewN _ _
          have b3 := Hb2.out.below q3
          have B3 := HB2.out.trans (BTo.quiet q3)
          have d0 := b3.bw.c0
          have d1 := b3.bw.c1
          have Hb3 := Lib.hid b3
          have HB3 := Lib.hid B3
          have hA := Lib.hid b3.A
          clear q3 B3 hw3 cfree ct0 ct1 Hb2 HB2
          obtain ⟨r, Y', Z', G', lv', pos', ts', hsb, htf, -, hcut⟩ := ts_cut (key := key) h g m u Z (Nat.le_refl _) b3.ts hat4 hkey (by omega)
          have hts := Lib.hid ts'
          have hk4 : Hid (insL key ⟨#[]⟩ true (treeL Y.σ.e Y.T (R at_)) = treeL Y'.σ.e Y'.T r) := Lib.hid (del_tree htf)
          have hko : Hid (∀ i, i < 4 → updF (fun i => treeL Y.σ.e Y.T (R i)) at_ (insL key ⟨#[]⟩ true (treeL Y.σ.e Y.T (R at_))) i = treeL Y'.σ.e Y'.T (updF R at_ r i)) := Lib.hid (keysOther hsb hk4.out)
          have cc := hcut w3 b3.hp
          clear hcut ts' hsb htf b3
          go_wp2_with (fail)
          refine cc.mono ?_
          rintro e w4 ⟨rfl, T4, hp4⟩
          have bw4 := Hb3.out.bw.to hA.out T4
          have B4 : BTo w1 g m rb kb tb w4 := HB3.out.trans (BTo.hto T4)
          have cput := bput_any bw4 hA.out ⟨hp4.lts g (.inr (.inl rfl)), hp4.lts m (.inr (.inr (.inl rfl)))⟩ at_ hat4 key (by omega) ⟨#[]⟩ false (by
            show (insL key ⟨#[]⟩ true (treeL Y.σ.e Y.T (R at_))).length ≤ 4096
            rw [hk4.out]; exact treeL_len _ _ _)
          have Hp4 := Lib.hid hp4
          have HB4 := Lib.hid B4
          clear T4 hp4 bw4 B4 cc Hb3 HB3 d0 d1
          go_wp2_with (fail)
          refine cput.mono ?_
          rintro e w9 ⟨rfl, va, vb, bw9, T9⟩
          have hp9 := hp_kto Hp4.out hA.out T9
          have B9 : BTo w1 g m rb kb tb w9 := HB4.out.trans (BTo.kto T9)
          have e2 := bw9.c2
          have er := bw9.cr hat4
          have fr : w9.frozen? ⟨rb, at_, none⟩ = false := frozen_of_row _ _ _ _ _ bw9.r
          have hfin : Hid (Bk (w9.setCell ⟨rb, at_, none⟩ (.int .i64 (r : Int))) bk rb kb tb h g m u Y' Z' (updF R at_ r) G' lv' pos' _ _ ∧ BTo w g m rb kb tb (w9.setCell ⟨rb, at_, none⟩ (.int .i64 (r : Int)))) := Lib.hid ⟨bk_fin bw9 hp9 hA.out hts.out hko.out, HB1.out.trans (B9.trans (BTo.row _ _))⟩
          clear T9 bw9 hp9 B9 cput Hp4 HB4
          go_wp2_with (fail)
          go_roundw
          case rel => exact ⟨q + 1, Y', Z', updF R at_ r, G', lv', pos', _, _, by omega, by omega, by go_num, hfin.out⟩
          case measure => simp [intOf]; omega
        · have t1 : (200 : Int) - ((usedTo (cOf Y.σ.c) 200 : Nat) : Int) < 4 := by omega
          have t2 : decide ((200 : Int) - ((usedTo (cOf Y.σ.c) 200 : Nat) : Int) < 4) = true := decide_eq_true t1
          generalize usedTo (cOf Y.σ.c) 200 = U at *
          go_wp2_with (fail)
          refine cfree.mono ?_
          rintro e w3 ⟨rfl, kk, rfl⟩
          have hfin : Hid (Bk (w2.drewN kk) bk rb kb tb h g m u Y Z R G lv pos kv tv ∧ BTo w g m rb kb tb (w2.drewN kk)) := Lib.hid ⟨Hb2.out.below (below_drewN _ _), HB1.out.trans (HB2.out.trans (BTo.quiet (below_drewN _ _)))⟩
          go_wp2_with (fail)
          go_roundw
          case rel => exact ⟨q + 1, Y, Z, R, G, lv, pos, kv, tv, by omega, by omega, by go_num, hfin.out⟩
          case measure => simp [intOf]; omega
      · as_aux_lemma =>
        by_cases hroom : usedTo (cOf Y.σ.c) 200 + 4 ≤ 200
        · have t1 : ¬ ((200 : Int) - ((usedTo (cOf Y.σ.c) 200 : Nat) : Int) < 4) := by omega
          have t2 : decide ((200 : Int) - ((usedTo (cOf Y.σ.c) 200 : Nat) : Int) < 4) = false := decide_eq_false t1
          go_wp2_with (fail)
          refine cfree.mono ?_
          rintro e w3 ⟨rfl, kk, hw3⟩
          have q3 : Below w2.heap.size w2 w3 := by rw [hw3]; exact below_drewN _ _
          have b3 := Hb2.out.below q3
          have B3 := HB2.out.trans (BTo.quiet q3)
          have d0 := b3.bw.c0
          have d1 := b3.bw.c1
          have Hb3 := Lib.hid b3
          have HB3 := Lib.hid B3
          have hA := Lib.hid b3.A
          clear q3 B3 hw3 cfree ct0 ct1 Hb2 HB2
          obtain ⟨r, Y', Z', G', lv', pos', ts', hsb, htf, -, hcut⟩ := ts_cut (key := key) h g m u Z (Nat.le_refl _) b3.ts hat4 hkey (by omega)
          have hts := Lib.hid ts'
          have hk4 : Hid (insL key ⟨#[]⟩ true (treeL Y.σ.e Y.T (R at_)) = treeL Y'.σ.e Y'.T r) := Lib.hid (del_tree htf)
          have hko : Hid (∀ i, i < 4 → updF (fun i => treeL Y.σ.e Y.T (R i)) at_ (insL key ⟨#[]⟩ true (treeL Y.σ.e Y.T (R at_))) i = treeL Y'.σ.e Y'.T (updF R at_ r i)) := Lib.hid (keysOther hsb hk4.out)
          have cc := hcut w3 b3.hp
          clear hcut ts' hsb htf b3
          go_wp2_with (fail)
          refine cc.mono ?_
          rintro e w4 ⟨rfl, T4, hp4⟩
          have bw4 := Hb3.out.bw.to hA.out T4
          have B4 : BTo w1 g m rb kb tb w4 := HB3.out.trans (BTo.hto T4)
          have cput := bput_any bw4 hA.out ⟨hp4.lts g (.inr (.inl rfl)), hp4.lts m (.inr (.inr (.inl rfl)))⟩ at_ hat4 key (by omega) ⟨#[]⟩ false (by
            show (insL key ⟨#[]⟩ true (treeL Y.σ.e Y.T (R at_))).length ≤ 4096
            rw [hk4.out]; exact treeL_len _ _ _)
          have Hp4 := Lib.hid hp4
          have HB4 := Lib.hid B4
          clear T4 hp4 bw4 B4 cc Hb3 HB3 d0 d1
          go_wp2_with (fail)
          refine cput.mono ?_
          rintro e w9 ⟨rfl, va, vb, bw9, T9⟩
          have hp9 := hp_kto Hp4.out hA.out T9
          have B9 : BTo w1 g m rb kb tb w9 := HB4.out.trans (BTo.kto T9)
          have e2 := bw9.c2
          have er := bw9.cr hat4
          have fr : w9.frozen? ⟨rb, at_, none⟩ = false := frozen_of_row _ _ _ _ _ bw9.r
          have hfin : Hid (Bk (w9.setCell ⟨rb, at_, none⟩ (.int .i64 (r : Int))) bk rb kb tb h g m u Y' Z' (updF R at_ r) G' lv' pos' _ _ ∧ BTo w g m rb kb tb (w9.setCell ⟨rb, at_, none⟩ (.int .i64 (r : Int)))) := Lib.hid ⟨bk_fin bw9 hp9 hA.out hts.out hko.out, HB1.out.trans (B9.trans (BTo.row _ _))⟩
          clear T9 bw9 hp9 B9 cput Hp4 HB4
          go_wp2_with (fail)
          go_roundw
          case rel => exact ⟨q + 1, Y', Z', updF R at_ r, G', lv', pos', _, _, by omega, by omega, by go_num, hfin.out⟩
          case measure => simp [intOf]; omega
        · have t1 : (200 : Int) - ((usedTo (cOf Y.σ.c) 200 : Nat) : Int) < 4 := by omega
          have t2 : decide ((200 : Int) - ((usedTo (cOf Y.σ.c) 200 : Nat) : Int) < 4) = true := decide_eq_true t1
          generalize usedTo (cOf Y.σ.c) 200 = U at *
          go_wp2_with (fail)
          refine cfree.mono ?_
          rintro e w3 ⟨rfl, kk, rfl⟩
          have hfin : Hid (Bk (w2.drewN kk) bk rb kb tb h g m u Y Z R G lv pos kv tv ∧ BTo w g m rb kb tb (w2.drewN kk)) := Lib.hid ⟨Hb2.out.below (below_drewN _ _), HB1.out.trans (HB2.out.trans (BTo.quiet (below_drewN _ _)))⟩
          go_wp2_with (fail)
          go_roundw
          case rel => exact ⟨q + 1, Y, Z, R, G, lv, pos, kv, tv, by omega, by omega, by go_num, hfin.out⟩
          case measure => simp [intOf]; omega
      · as_aux_lemma =>
        by_cases hroom : usedTo (cOf Y.σ.c) 200 + 60 ≤ 200
        · have t1 : ¬ ((200 : Int) - ((usedTo (cOf Y.σ.c) 200 : Nat) : Int) < 60) := by omega
          have t2 : decide ((200 : Int) - ((usedTo (cOf Y.σ.c) 200 : Nat) : Int) < 60) = false := decide_eq_false t1
          go_wp2_with (fail)
          refine cfree.mono ?_
          rintro e w3 ⟨rfl, kk, hw3⟩
          have q3 : Below w2.heap.size w2 w3 := by rw [hw3]; exact below_drewN _ _
          have b3 := Hb2.out.below q3
          have B3 := HB2.out.trans (BTo.quiet q3)
          have d0 := b3.bw.c0
          have d1 := b3.bw.c1
          have Hb3 := Lib.hid b3
          have HB3 := Lib.hid B3
          have hA := Lib.hid b3.A
          clear q3 B3 hw3 cfree ct0 ct1 Hb2 HB2
          obtain ⟨r, Y', Z', G', lv', pos', ts', hsb, htf, hclip⟩ := ts_clip (key := key) h g m u Z (Nat.le_refl _) b3.ts hat4 (by omega) (by omega)
          have hts := Lib.hid ts'
          have HF := Lib.hid htf
          have HSB := Lib.hid hsb
          have cc := hclip w3 b3.hp
          obtain ⟨K, hK⟩ : ∃ K, K = treeL Y.σ.e Y.T (R at_) := ⟨_, rfl⟩
          have HK := Lib.hid hK
          have hKl : K.length ≤ 4096 := by rw [hK]; exact treeL_len _ _ _
          clear hclip ts' hsb htf b3
          go_wp2_with (fail)
          refine cc.mono ?_
          rintro e w4 ⟨rfl, T4, hp4⟩
          have bw4 := Hb3.out.bw.to hA.out T4
          have B4 : BTo w1 g m rb kb tb w4 := HB3.out.trans (BTo.hto T4)
          have hrk0 : Reads w4 (kv at_) ((treeL Y.σ.e Y.T (R at_)).map kI) := bw4.kr at_ hat4
          have hrt0 : Reads w4 (tv at_) ((treeL Y.σ.e Y.T (R at_)).map kS) := bw4.tr at_ hat4
          rw [← hK] at hrk0 hrt0
          obtain ⟨ka, kc, hkv, hkit⟩ := Reads.items hrk0
          obtain ⟨ta, tc, htv, htit⟩ := Reads.items hrt0
          have hcell : Hid (∀ j (hj : j < K.length), ∃ cb co, ka = some ⟨cb, co, none⟩ ∧ w4.cell? ⟨cb, co + j, none⟩ = some (.int .i64 ((K[j].1 : Nat) : Int))) := Lib.hid fun j hj => by
            obtain ⟨cb, co, e1, e2, e3⟩ := hkit j hj
            exact ⟨cb, co, e1, e3⟩
          have hkc : K.length ≤ kc := bw4.kc at_ hat4 _ _ _ hkv
          have htc : K.length ≤ tc := bw4.tc at_ hat4 _ _ _ htv
          have g3 := bw4.c3
          have gk := bw4.ck hat4
          rw [hkv] at gk hrk0
          rw [htv] at hrt0
          have Hw4 := Lib.hid bw4
          have Hp4 := Lib.hid hp4
          have HB4 := Lib.hid B4
          have HKV := Lib.hid hkv
          have HTV := Lib.hid htv
          have HRK := Lib.hid hrk0
          have HRT := Lib.hid hrt0
          clear T4 hp4 bw4 B4 cc Hb3 HB3 d0 d1 hkit htit hkv htv hK hrk0 hrt0
          go_wp2_with (fail)
          go_loopw [14] (fun t wz => ∃ p : Nat, p ≤ K.length ∧ t = .int .i64 (p : Int) ∧ w4 = wz ∧ Hid (∀ j (hj : j < K.length), j < p → K[j].1 < key)) (fun t _ => K.length - (intOf t).toNat)
          case atStart => exact ⟨0, Nat.zero_le _, rfl, rfl, Lib.hid fun j _ hj => absurd hj (Nat.not_lt_zero _)⟩
          case round =>
            obtain ⟨p, hp, rfl, rfl, hlow⟩ := hrel
            by_cases hpl : p < K.length
            · obtain ⟨cb2, co2, rfl, hce⟩ := hcell.out p hpl
              have z1 : (p : Int) < (K.length : Int) := by omega
              by_cases hkk : K[p].1 < key
              · have z2 : ((K[p].1 : Nat) : Int) < (key : Int) := by omega
                have z3 : decide (((K[p].1 : Nat) : Int) < (key : Int)) = true := decide_eq_true z2
                have hlow2 : Hid (∀ j (hj : j < K.length), j < p + 1 → K[j].1 < key) := Lib.hid fun j hj hj2 => by
                  by_cases e : j = p
                  · subst e; exact hkk
                  · exact hlow.out j hj (by omega)
                generalize K[p].1 = kp at *
                go_wp2_with (fail)
                go_roundw
                case rel => exact ⟨p + 1, by omega, by go_num, by first | rfl | trivial, hlow2⟩
                case measure => simp [intOf]; omega
              · have z2 : ¬ (((K[p].1 : Nat) : Int) < (key : Int)) := by omega
                have z3 : decide (((K[p].1 : Nat) : Int) < (key : Int)) = false := decide_eq_false z2
                have htk : Hid (K.take p = treeL Y'.σ.e Y'.T r) := Lib.hid (clip_tree HK.out HF.out hp hlow.out (fun hn => by omega))
                generalize K[p].1 = kp at *
                have hrk : Reads w4 (.slice (some ⟨cb2, co2, none⟩) p kc) ((K.take p).map kI) := by rw [List.map_take]; exact reads_take HRK.out p (by rw [List.length_map]; omega)
                have hrt : Reads w4 (.slice ta p tc) ((K.take p).map kS) := by rw [List.map_take]; exact reads_take HRT.out p (by rw [List.length_map]; omega)
                have bw4 := Hw4.out
                have had : ∀ q, (Value.slice (some ⟨cb2, co2, none⟩) p kc).ownBlock = some q → q ≠ g ∧ q ≠ m ∧ q ≠ rb ∧ q ≠ kb ∧ q ≠ tb := fun q hq => bw4.kd at_ hat4 q (by rw [HKV.out]; exact (own_sl _ _ _ _ _).trans hq)
                have hbd : ∀ q, (Value.slice ta p tc).ownBlock = some q → q ≠ g ∧ q ≠ m ∧ q ≠ rb ∧ q ≠ kb ∧ q ≠ tb := fun q hq => bw4.td at_ hat4 q (by rw [HTV.out]; exact (own_sl _ _ _ _ _).trans hq)
                have hko : ∀ i, i < 4 → updF (fun i => treeL Y.σ.e Y.T (R i)) at_ (K.take p) i = treeL Y'.σ.e Y'.T (updF R at_ r i) := keysOther HSB.out htk.out
                have hA' := hA.out
                have bwd : BkW w4 bk rb kb tb h g m R _ _ _ := bw4.heap rfl (fun _ => rfl)
                have q3 := bwd.c3
                have qk := bwd.ck hat4
                have qf : w4.frozen? ⟨kb, at_, none⟩ = false := frozen_of_row _ _ _ _ _ bwd.k
                obtain ⟨wa, hwa⟩ : ∃ wa, wa = (w4.setCell ⟨kb, at_, none⟩ (.slice (some ⟨cb2, co2, none⟩) p kc)).drew := ⟨_, rfl⟩
                have hoa : ∀ k, k ≠ kb → wa.heap[k]? = w4.heap[k]? := fun k hk => by
                  show wa.heap[k]? = _
                  rw [hwa]; exact Below.heap_setCell _ _ _ _ (fun e => hk (by have e : k = kb := e; exact e))
                have q4 : wa.cell? ⟨bk, 4, none⟩ = some (.slice (some ⟨tb, 0, none⟩) 4 4) := by rw [← bw4.c4]; exact cell_of_heap (hoa bk hA'.bk_) 4
                have qt : ∀ j, j < 4 → wa.cell? ⟨tb, j, none⟩ = some (tv j) := fun j hj => by rw [← bw4.ct hj]; exact cell_of_heap (hoa tb hA'.kt.symm) j
                have ft : wa.frozen? ⟨tb, at_, none⟩ = false := frozen_of_row _ _ _ _ _ ((hoa tb hA'.kt.symm).trans bw4.t)
                obtain ⟨wb, hwb⟩ : ∃ wb, wb = (wa.setCell ⟨tb, at_, none⟩ (.slice ta p tc)).drew := ⟨_, rfl⟩
                have KT5 : KTo w4 kb tb at_ (.slice (some ⟨cb2, co2, none⟩) p kc) (.slice ta p tc) wb := ⟨by first | (rw [hwb, hwa]; done) | (rw [hwb, hwa]; rfl), by first | (rw [hwb, hwa]; done) | (rw [hwb, hwa]; rfl), by first | (rw [hwb, hwa]; done) | (rw [hwb, hwa]; rfl), by first | (rw [hwb, hwa]; done) | (rw [hwb, hwa]; simp; done) | (rw [hwb, hwa]; simp; rfl), fun k => by first | (rw [hwb, hwa]; done) | (rw [hwb, hwa]; rfl)⟩
                have bw5 := bw4.setKT hA' at_ hat4 (.slice (some ⟨cb2, co2, none⟩) p kc) (.slice ta p tc) (K.take p) hrk hrt (by rw [List.length_take]; omega) had hbd (fun x n c e => by injection e; omega) (fun x n c e => by injection e; omega)
                have bw6 := bw5.heap (w' := wb) (by rw [KT5.size]; simp) KT5.h
                have hp6 := hp_kto Hp4.out hA' KT5.hto
                have B6 := HB4.out.trans (BTo.kto (rb := rb) (g := g) (m := m) KT5.hto)
                have e2 := bw6.c2
                have er := bw6.cr hat4
                have fr : wb.frozen? ⟨rb, at_, none⟩ = false := frozen_of_row _ _ _ _ _ bw6.r
                have hfin : Hid (Bk (wb.setCell ⟨rb, at_, none⟩ (.int .i64 (r : Int))) bk rb kb tb h g m u Y' Z' (updF R at_ r) G' lv' pos' _ _ ∧ BTo w g m rb kb tb (wb.setCell ⟨rb, at_, none⟩ (.int .i64 (r : Int)))) := Lib.hid ⟨bk_fin bw6 hp6 hA.out hts.out hko, HB1.out.trans (B6.trans (BTo.row _ _))⟩
                have qt4 := qt at_ hat4
                rw [HTV.out] at qt4
                rw [HKV.out] at qk
                have hsk : ∀ W, (Instr.slice 28 (.slice (some ⟨cb2, co2, none⟩) K.length kc) none (some (.int .i64 (p : Int))) none).run Try.prog W = .ok (.slice (some ⟨cb2, co2, none⟩) p kc) W := fun W => slice_hi Try.underlying28 (fun W => by kernel_rfl) (some ⟨cb2, co2, none⟩) K.length kc p (by omega) W
                have hst : ∀ W, (Instr.slice 54 (.slice ta K.length tc) none (some (.int .i64 (p : Int))) none).run Try.prog W = .ok (.slice ta p tc) W := fun W => slice_hi Try.underlying54 (fun W => by kernel_rfl) ta K.length tc p (by omega) W
                clear bw4 hrk hrt had hbd hko bwd hoa qt KT5 bw5 bw6 hp6 B6 hA' Hw4 Hp4 HB4 HRK HRT hcell
                go_upto_region 36 with (fail)
                go_region
                rw [← hwa]
                clear hwa
                go_upto_region 37 with (fail)
                go_region
                rw [← hwb]
                clear hwb
                go_wp2_with (fail)
                go_roundw
                case rel => exact ⟨q + 1, Y', Z', updF R at_ r, G', lv', pos', _, _, by omega, by omega, by go_num, hfin.out⟩
                case measure => simp [intOf]; omega
            · obtain rfl : p = K.length := by omega
              have z1 : ¬ ((K.length : Int) < (K.length : Int)) := by omega
              have htk : Hid (K.take K.length = treeL Y'.σ.e Y'.T r) := Lib.hid (clip_tree HK.out HF.out hp hlow.out (fun hn => by omega))
              have hrk : Reads w4 (.slice ka K.length kc) ((K.take K.length).map kI) := by rw [List.map_take]; exact reads_take HRK.out K.length (by rw [List.length_map]; omega)
              have hrt : Reads w4 (.slice ta K.length tc) ((K.take K.length).map kS) := by rw [List.map_take]; exact reads_take HRT.out K.length (by rw [List.length_map]; omega)
              have bw4 := Hw4.out
              have had : ∀ q, (Value.slice ka K.length kc).ownBlock = some q → q ≠ g ∧ q ≠ m ∧ q ≠ rb ∧ q ≠ kb ∧ q ≠ tb := fun q hq => bw4.kd at_ hat4 q (by rw [HKV.out]; exact (own_sl _ _ _ _ _).trans hq)
              have hbd : ∀ q, (Value.slice ta K.length tc).ownBlock = some q → q ≠ g ∧ q ≠ m ∧ q ≠ rb ∧ q ≠ kb ∧ q ≠ tb := fun q hq => bw4.td at_ hat4 q (by rw [HTV.out]; exact (own_sl _ _ _ _ _).trans hq)
              have hko : ∀ i, i < 4 → updF (fun i => treeL Y.σ.e Y.T (R i)) at_ (K.take K.length) i = treeL Y'.σ.e Y'.T (updF R at_ r i) := keysOther HSB.out htk.out
              have hA' := hA.out
              have bwd : BkW w4 bk rb kb tb h g m R _ _ _ := bw4.heap rfl (fun _ => rfl)
              have q3 := bwd.c3
              have qk := bwd.ck hat4
              have qf : w4.frozen? ⟨kb, at_, none⟩ = false := frozen_of_row _ _ _ _ _ bwd.k
              obtain ⟨wa, hwa⟩ : ∃ wa, wa = (w4.setCell ⟨kb, at_, none⟩ (.slice ka K.length kc)).drew := ⟨_, rfl⟩
              have hoa : ∀ k, k ≠ kb → wa.heap[k]? = w4.heap[k]? := fun k hk => by
                show wa.heap[k]? = _
                rw [hwa]; exact Below.heap_setCell _ _ _ _ (fun e => hk (by have e : k = kb := e; exact e))
              have q4 : wa.cell? ⟨bk, 4, none⟩ = some (.slice (some ⟨tb, 0, none⟩) 4 4) := by rw [← bw4.c4]; exact cell_of_heap (hoa bk hA'.bk_) 4
              have qt : ∀ j, j < 4 → wa.cell? ⟨tb, j, none⟩ = some (tv j) := fun j hj => by rw [← bw4.ct hj]; exact cell_of_heap (hoa tb hA'.kt.symm) j
              have ft : wa.frozen? ⟨tb, at_, none⟩ = false := frozen_of_row _ _ _ _ _ ((hoa tb hA'.kt.symm).trans bw4.t)
              obtain ⟨wb, hwb⟩ : ∃ wb, wb = (wa.setCell ⟨tb, at_, none⟩ (.slice ta K.length tc)).drew := ⟨_, rfl⟩
              have KT5 : KTo w4 kb tb at_ (.slice ka K.length kc) (.slice ta K.length tc) wb := ⟨by first | (rw [hwb, hwa]; done) | (rw [hwb, hwa]; rfl), by first | (rw [hwb, hwa]; done) | (rw [hwb, hwa]; rfl), by first | (rw [hwb, hwa]; done) | (rw [hwb, hwa]; rfl), by first | (rw [hwb, hwa]; done) | (rw [hwb, hwa]; simp; done) | (rw [hwb, hwa]; simp; rfl), fun k => by first | (rw [hwb, hwa]; done) | (rw [hwb, hwa]; rfl)⟩
              have bw5 := bw4.setKT hA' at_ hat4 (.slice ka K.length kc) (.slice ta K.length tc) (K.take K.length) hrk hrt (by rw [List.length_take]; omega) had hbd (fun x n c e => by injection e; omega) (fun x n c e => by injection e; omega)
              have bw6 := bw5.heap (w' := wb) (by rw [KT5.size]; simp) KT5.h
              have hp6 := hp_kto Hp4.out hA' KT5.hto
              have B6 := HB4.out.trans (BTo.kto (rb := rb) (g := g) (m := m) KT5.hto)
              have e2 := bw6.c2
              have er := bw6.cr hat4
              have fr : wb.frozen? ⟨rb, at_, none⟩ = false := frozen_of_row _ _ _ _ _ bw6.r
              have hfin : Hid (Bk (wb.setCell ⟨rb, at_, none⟩ (.int .i64 (r : Int))) bk rb kb tb h g m u Y' Z' (updF R at_ r) G' lv' pos' _ _ ∧ BTo w g m rb kb tb (wb.setCell ⟨rb, at_, none⟩ (.int .i64 (r : Int)))) := Lib.hid ⟨bk_fin bw6 hp6 hA.out hts.out hko, HB1.out.trans (B6.trans (BTo.row _ _))⟩
              have qt4 := qt at_ hat4
              rw [HTV.out] at qt4
              rw [HKV.out] at qk
              have hsk : ∀ W, (Instr.slice 28 (.slice ka K.length kc) none (some (.int .i64 (K.length : Int))) none).run Try.prog W = .ok (.slice ka K.length kc) W := fun W => slice_hi Try.underlying28 (fun W => by kernel_rfl) ka K.length kc K.length (by omega) W
              have hst : ∀ W, (Instr.slice 54 (.slice ta K.length tc) none (some (.int .i64 (K.length : Int))) none).run Try.prog W = .ok (.slice ta K.length tc) W := fun W => slice_hi Try.underlying54 (fun W => by kernel_rfl) ta K.length tc K.length (by omega) W
              clear bw4 hrk hrt had hbd hko bwd hoa qt KT5 bw5 bw6 hp6 B6 hA' Hw4 Hp4 HB4 HRK HRT hcell
              go_upto_region 36 with (fail)
              go_region
              rw [← hwa]
              clear hwa
              go_upto_region 37 with (fail)
              go_region
              rw [← hwb]
              clear hwb
              go_wp2_with (fail)
              go_roundw
              case rel => exact ⟨q + 1, Y', Z', updF R at_ r, G', lv', pos', _, _, by omega, by omega, by go_num, hfin.out⟩
              case measure => simp [intOf]; omega
        · have t1 : (200 : Int) - ((usedTo (cOf Y.σ.c) 200 : Nat) : Int) < 60 := by omega
          have t2 : decide ((200 : Int) - ((usedTo (cOf Y.σ.c) 200 : Nat) : Int) < 60) = true := decide_eq_true t1
          generalize usedTo (cOf Y.σ.c) 200 = U at *
          go_wp2_with (fail)
          refine cfree.mono ?_
          rintro e w3 ⟨rfl, kk, rfl⟩
          have hfin : Hid (Bk (w2.drewN kk) bk rb kb tb h g m u Y Z R G lv pos kv tv ∧ BTo w g m rb kb tb (w2.drewN kk)) := Lib.hid ⟨Hb2.out.below (below_drewN _ _), HB1.out.trans (HB2.out.trans (BTo.quiet (below_drewN _ _)))⟩
          go_wp2_with (fail)
          go_roundw
          case rel => exact ⟨q + 1, Y, Z, R, G, lv, pos, kv, tv, by omega, by omega, by go_num, hfin.out⟩
          case measure => simp [intOf]; omega
      · as_aux_lemma =>
        have n2 := HX.out w2 HB2.out
        have xl2 : w2.cell? ⟨xb, 3, none⟩ = some (.int .i64 xl) := by simp [World.cell?, n2]
        obtain ⟨to, hto⟩ : ∃ a : Nat, pk xl 4 = (a : Int) := ⟨(pk xl 4).toNat, by have := pk_rng xl 4 (by omega); omega⟩
        have hto4 : to < 4 := by have := pk_rng xl 4 (by omega); omega
        have htoi : (to : Int) < 4 := by omega
        have cto := pick17_any xl 4 w2 o7 o8 (by decide) (by decide)
        rw [hto] at cto
        have g2 := Hb2.out.bw.c2
        have gr := Hb2.out.bw.cr hto4
        have hA := Lib.hid Hb2.out.A
        clear n2 hto cfree ct1
        by_cases hsh : R to = 0 ∧ R at_ ≠ 0
        · obtain ⟨h0, hr0⟩ := hsh
          have hne : to ≠ at_ := fun e => hr0 (e ▸ h0)
          obtain ⟨ts', r3, rn, rc, r255⟩ := ts_inc Hb2.out.ts hto4 h0 hat4 rfl hr0
          have hup : updF (updF R to (R at_)) at_ (R at_) = updF R to (R at_) := by
            funext j
            unfold updF
            by_cases e : j = at_
            · subst e; rw [if_pos rfl, if_neg hne.symm]
            · rw [if_neg e]
          have hts : Hid (TS 200 ⟨⟨upd Y.σ.c (R at_) (Y.σ.c (R at_) + 1), Y.σ.e⟩, Y.T⟩ (updF (updF R to (R at_)) at_ (R at_)) G lv pos) := Lib.hid (by rw [hup]; exact ts')
          have hko : Hid (∀ i, i < 4 → updF (fun i => treeL Y.σ.e Y.T (R i)) to (treeL Y.σ.e Y.T (R at_)) i = treeL Y.σ.e Y.T (updF (updF R to (R at_)) at_ (R at_) i)) := Lib.hid fun i hi => by
            rw [hup]
            by_cases e : i = to
            · subst e; rw [updF_same, updF_same]
            · rw [updF_other e, updF_other e]
          have cinc := inc_good g 200 (cOf Y.σ.c) (R at_) w2 Hb2.out.hp.t Hb2.out.hp.small r3 rn (by rw [cOf_hi r3]; exact rc) (by rw [cOf_hi r3]; exact r255)
          rw [cOf_hi r3, cOf_upd _ r3] at cinc
          have hsm : Small 200 (cOf (upd Y.σ.c (R at_) (Y.σ.c (R at_) + 1))) := by
            rw [← cOf_upd _ r3]; exact small_upd Hb2.out.hp.small rn (by omega)
          rw [h0] at gr
          have z1 : (((R at_ : Nat) : Int) != 0) = true := by rw [bne_iff_ne]; omega
          have z2 : (((R at_ : Nat) : Int) == 0) = false := by rw [beq_eq_false_iff_ne]; omega
          clear ts' r3 rn rc r255 hup h0 hr0
          go_wp2_with (fail)
          refine cto.mono ?_
          rintro e w' ⟨rfl, rfl⟩
          go_wp2_with (fail)
          refine cinc.mono ?_
          rintro e w3 ⟨rfl, T3⟩
          have bw3 := Hb2.out.bw.to hA.out (HTo.tab (m := m) T3)
          have hp3 := Hb2.out.hp.tab T3 hsm
          have B3 : BTo w1 g m rb kb tb w3 := HB2.out.trans (BTo.hto (HTo.tab T3))
          have i2 := bw3.c2
          have ir := bw3.cr hto4
          have fr3 : w3.frozen? ⟨rb, to, none⟩ = false := frozen_of_row _ _ _ _ _ bw3.r
          have bw4 := bw3.setR hA.out to (R at_)
          have hp4 := hp_row hp3 hA.out to (.int .i64 (R at_ : Int)) (rb := rb) (bk := bk) (kb := kb) (tb := tb)
          have B4 := B3.trans (BTo.row (g := g) (m := m) (rb := rb) (kb := kb) (tb := tb) to (.int .i64 (R at_ : Int)))
          obtain ⟨w4, hw4⟩ : ∃ w4, w4 = w3.setCell ⟨rb, to, none⟩ (.int .i64 (R at_ : Int)) := ⟨_, rfl⟩
          rw [← hw4] at bw4 hp4 B4
          have hA' := hA.out
          have bwd : BkW w4 bk rb kb tb h g m (updF R to (R at_)) _ _ _ := bw4.heap rfl (fun _ => rfl)
          have q3 := bwd.c3
          have qk := bwd.ck hto4
          have qf : w4.frozen? ⟨kb, to, none⟩ = false := frozen_of_row _ _ _ _ _ bwd.k
          obtain ⟨wa, hwa⟩ : ∃ wa, wa = (w4.setCell ⟨kb, to, none⟩ (kv at_)).drew := ⟨_, rfl⟩
          have hoa : ∀ k, k ≠ kb → wa.heap[k]? = w4.heap[k]? := fun k hk => by
            show wa.heap[k]? = _
            rw [hwa]; exact Below.heap_setCell _ _ _ _ (fun e => hk (by have e : k = kb := e; exact e))
          have q4 : wa.cell? ⟨bk, 4, none⟩ = some (.slice (some ⟨tb, 0, none⟩) 4 4) := by rw [← bw4.c4]; exact cell_of_heap (hoa bk hA'.bk_) 4
          have qt : ∀ j, j < 4 → wa.cell? ⟨tb, j, none⟩ = some (tv j) := fun j hj => by rw [← bw4.ct hj]; exact cell_of_heap (hoa tb hA'.kt.symm) j
          have ft : wa.frozen? ⟨tb, to, none⟩ = false := frozen_of_row _ _ _ _ _ ((hoa tb hA'.kt.symm).trans bw4.t)
          obtain ⟨wb, hwb⟩ : ∃ wb, wb = (wa.setCell ⟨tb, to, none⟩ (tv at_)).drew := ⟨_, rfl⟩
          have KT5 : KTo w4 kb tb to (kv at_) (tv at_) wb := ⟨by first | (rw [hwb, hwa]; done) | (rw [hwb, hwa]; rfl), by first | (rw [hwb, hwa]; done) | (rw [hwb, hwa]; rfl), by first | (rw [hwb, hwa]; done) | (rw [hwb, hwa]; rfl), by first | (rw [hwb, hwa]; done) | (rw [hwb, hwa]; simp; done) | (rw [hwb, hwa]; simp; rfl), fun k => by first | (rw [hwb, hwa]; done) | (rw [hwb, hwa]; rfl)⟩
          have bw5 := bw4.setKT hA' to hto4 (kv at_) (tv at_) (treeL Y.σ.e Y.T (R at_)) (bw4.kr at_ hat4) (bw4.tr at_ hat4) (treeL_len _ _ _) (bw4.kd at_ hat4) (bw4.td at_ hat4) (bw4.kc at_ hat4) (bw4.tc at_ hat4)
          have bw6 := bw5.heap (w' := wb) (by rw [KT5.size]; simp) KT5.h
          have hp6 := hp_kto hp4 hA' KT5.hto
          have B6 := B4.trans (BTo.kto (rb := rb) (g := g) (m := m) KT5.hto)
          have qka := bwd.ck hat4
          have qta := qt at_ hat4
          have qtt := qt to hto4
          have e2 := bw6.c2
          have er := bw6.cr hat4
          have fr : wb.frozen? ⟨rb, at_, none⟩ = false := frozen_of_row _ _ _ _ _ bw6.r
          have hfin : Hid (Bk (wb.setCell ⟨rb, at_, none⟩ (.int .i64 (R at_ : Int))) bk rb kb tb h g m u ⟨⟨upd Y.σ.c (R at_) (Y.σ.c (R at_) + 1), Y.σ.e⟩, Y.T⟩ Z (updF (updF R to (R at_)) at_ (R at_)) G lv pos _ _ ∧ BTo w g m rb kb tb (wb.setCell ⟨rb, at_, none⟩ (.int .i64 (R at_ : Int)))) := Lib.hid ⟨bk_fin bw6 hp6 hA.out hts.out hko.out, HB1.out.trans (B6.trans (BTo.row _ _))⟩
          obtain ⟨ax, an, ac, hax⟩ : ∃ x n c, kv at_ = .slice x n c := by
            obtain ⟨a, c, e, _⟩ := Reads.items (bw4.kr at_ hat4)
            exact ⟨_, _, _, e⟩
          obtain ⟨bx, bn, bc, hbx⟩ : ∃ x n c, tv at_ = .slice x n c := by
            obtain ⟨a, c, e, _⟩ := Reads.items (bw4.tr at_ hat4)
            exact ⟨_, _, _, e⟩
          rw [hax] at qka hwa
          rw [hbx] at qta hwb
          clear T3 bw3 hp3 B3 bwd hoa qt KT5 bw5 bw6 hp6 B6 hA' bw4 hp4 B4 Hb2 HB2 hax hbx
          go_upto_region 43 with (fail)
          rw [← hw4]
          clear hw4
          go_region
          rw [← hwa]
          clear hwa
          go_upto_region 44 with (fail)
          go_region
          rw [← hwb]
          clear hwb
          go_wp2_with (fail)
          go_roundw
          case rel => exact ⟨q + 1, _, Z, updF (updF R to (R at_)) at_ (R at_), G, lv, pos, _, _, by omega, by omega, by go_num, hfin.out⟩
          case measure => simp [intOf]; omega
        · have e2 := Hb2.out.bw.c2
          have er := Hb2.out.bw.cr hat4
          have fr : w2.frozen? ⟨rb, at_, none⟩ = false := frozen_of_row _ _ _ _ _ Hb2.out.bw.r
          have hup : updF R at_ (R at_) = R := updF_id R at_
          have hfin : Hid (Bk (w2.setCell ⟨rb, at_, none⟩ (.int .i64 (R at_ : Int))) bk rb kb tb h g m u Y Z (updF R at_ (R at_)) G lv pos kv tv ∧ BTo w g m rb kb tb (w2.setCell ⟨rb, at_, none⟩ (.int .i64 (R at_ : Int)))) := Lib.hid ⟨bk_fin Hb2.out.bw Hb2.out.hp hA.out (by rw [hup]; exact Hb2.out.ts) (fun i hi => by rw [hup]), HB1.out.trans (HB2.out.trans (BTo.row _ _))⟩
          clear hup
          by_cases h0 : R to = 0
          · have hr0 : R at_ = 0 := Classical.byContradiction fun e => hsh ⟨h0, e⟩
            rw [h0] at gr
            have z2 : (((R at_ : Nat) : Int) != 0) = false := by rw [bne_eq_false_iff_eq]; omega
            have z3 : (((R at_ : Nat) : Int) == 0) = true := by rw [beq_iff_eq]; omega
            clear hsh h0 hr0 Hb2 HB2
            go_wp2_with (fail)
            refine cto.mono ?_
            rintro e w' ⟨rfl, rfl⟩
            go_wp2_with (fail)
            go_roundw
            case rel => exact ⟨q + 1, Y, Z, updF R at_ (R at_), G, lv, pos, kv, tv, by omega, by omega, by go_num, hfin.out⟩
            case measure => simp [intOf]; omega
          · have z2 : (((R to : Nat) : Int) == 0) = false := by rw [beq_eq_false_iff_ne]; omega
            clear hsh Hb2 HB2
            go_wp2_with (fail)
            refine cto.mono ?_
            rintro e w' ⟨rfl, rfl⟩
            go_wp2_with (fail)
            go_roundw
            case rel => exact ⟨q + 1, Y, Z, updF R at_ (R at_), G, lv, pos, kv, tv, by omega, by omega, by go_num, hfin.out⟩
            case measure => simp [intOf]; omega
      · as_aux_lemma =>
        obtain ⟨Y', G', ts', hsb, hT', he', hdrop⟩ := ts_drop h g m u Z Hb2.out.ts hat4
        have hts := Lib.hid ts'
        have hko : Hid (∀ i, i < 4 → updF (fun i => treeL Y.σ.e Y.T (R i)) at_ [] i = treeL Y'.σ.e Y'.T (updF R at_ 0 i)) := Lib.hid (keysOther hsb drop_tree.symm)
        have cc := hdrop w2 Hb2.out.hp
        have hA := Lib.hid Hb2.out.A
        clear hdrop ts' hsb hT' he' cfree
        go_wp2_with (fail)
        refine cc.mono ?_
        rintro e w4 ⟨rfl, T4, hp4⟩
        have bw4 := Hb2.out.bw.to hA.out T4
        have B4 : BTo w1 g m rb kb tb w4 := HB2.out.trans (BTo.hto T4)
        have hA' := hA.out
        have bwd : BkW w4 bk rb kb tb h g m R _ _ _ := bw4.heap rfl (fun _ => rfl)
        have q3 := bwd.c3
        have qk := bwd.ck hat4
        have qf : w4.frozen? ⟨kb, at_, none⟩ = false := frozen_of_row _ _ _ _ _ bwd.k
        obtain ⟨wa, hwa⟩ : ∃ wa, wa = (w4.setCell ⟨kb, at_, none⟩ (.slice none 0 0)) := ⟨_, rfl⟩
        have hoa : ∀ k, k ≠ kb → wa.heap[k]? = w4.heap[k]? := fun k hk => by
          show wa.heap[k]? = _
          rw [hwa]; exact Below.heap_setCell _ _ _ _ (fun e => hk (by have e : k = kb := e; exact e))
        have q4 : wa.cell? ⟨bk, 4, none⟩ = some (.slice (some ⟨tb, 0, none⟩) 4 4) := by rw [← bw4.c4]; exact cell_of_heap (hoa bk hA'.bk_) 4
        have qt : ∀ j, j < 4 → wa.cell? ⟨tb, j, none⟩ = some (tv j) := fun j hj => by rw [← bw4.ct hj]; exact cell_of_heap (hoa tb hA'.kt.symm) j
        have ft : wa.frozen? ⟨tb, at_, none⟩ = false := frozen_of_row _ _ _ _ _ ((hoa tb hA'.kt.symm).trans bw4.t)
        obtain ⟨wb, hwb⟩ : ∃ wb, wb = (wa.setCell ⟨tb, at_, none⟩ (.slice none 0 0)) := ⟨_, rfl⟩
        have KT5 : KTo w4 kb tb at_ (.slice none 0 0) (.slice none 0 0) wb := ⟨by first | (rw [hwb, hwa]; done) | (rw [hwb, hwa]; rfl), by first | (rw [hwb, hwa]; done) | (rw [hwb, hwa]; rfl), by first | (rw [hwb, hwa]; done) | (rw [hwb, hwa]; rfl), by first | (rw [hwb, hwa]; done) | (rw [hwb, hwa]; simp; done) | (rw [hwb, hwa]; simp; rfl), fun k => by first | (rw [hwb, hwa]; done) | (rw [hwb, hwa]; rfl)⟩
        have bw5 := bw4.setKT hA' at_ hat4 (.slice none 0 0) (.slice none 0 0) [] (.inl ⟨⟨_, _, rfl⟩, rfl⟩) (.inl ⟨⟨_, _, rfl⟩, rfl⟩) (by simp) (fun q hq => by cases hq) (fun q hq => by cases hq) (fun x n c e => by injection e; omega) (fun x n c e => by injection e; omega)
        have bw6 := bw5.heap (w' := wb) (by rw [KT5.size]; simp) KT5.h
        have hp6 := hp_kto hp4 hA' KT5.hto
        have B6 := B4.trans (BTo.kto (rb := rb) (g := g) (m := m) KT5.hto)
        have qt4 := qt at_ hat4
        have e2 := bw6.c2
        have er := bw6.cr hat4
        have fr : wb.frozen? ⟨rb, at_, none⟩ = false := frozen_of_row _ _ _ _ _ bw6.r
        have hfin : Hid (Bk (wb.setCell ⟨rb, at_, none⟩ (.int .i64 ((0 : Nat) : Int))) bk rb kb tb h g m u Y' Z (updF R at_ 0) G' lv pos _ _ ∧ BTo w g m rb kb tb (wb.setCell ⟨rb, at_, none⟩ (.int .i64 ((0 : Nat) : Int)))) := Lib.hid ⟨bk_fin bw6 hp6 hA.out hts.out hko.out, HB1.out.trans (B6.trans (BTo.row _ _))⟩
        clear T4 hp4 bw4 B4 cc Hb2 HB2 ct0 ct1 bwd hoa qt KT5 bw5 bw6 hp6 B6 hA'
        go_upto_region 13 with (fail)
        rw [← hwa]
        clear hwa
        go_upto_region 45 with (fail)
        rw [← hwb]
        clear hwb
        go_wp2_with (fail)
        go_roundw
        case rel => exact ⟨q + 1, Y', Z, updF R at_ 0, G', lv, pos, _, _, by omega, by omega, by go_num, hfin.out⟩
        case measure => simp [intOf]; omega
    · have hfin := Lib.hid hb
      have hfin2 := Lib.hid hB
      by_cases hl1 : q < L.length
      · obtain rfl : q = 40 := by omega
        have y1 : ((40 : Nat) : Int) < (L.length : Int) := by omega
        clear hb hB
        go_wp2_with (fail)
        go_ret
        exact ⟨rfl, hfin2.out, Y, Z, R, G, lv, pos, kv, tv, hfin.out⟩
      · obtain rfl : q = L.length := by omega
        clear hb hB
        go_wp2_with (fail)
        go_ret
        exact ⟨rfl, hfin2.out, Y, Z, R, G, lv, pos, kv, tv, hfin.out⟩
end
end Go.Proofs.Ytlbjfigdocbffaa
