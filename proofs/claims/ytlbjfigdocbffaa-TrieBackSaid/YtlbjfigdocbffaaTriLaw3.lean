/- trie: to set a key, and to cut it. -/
import Derived.Test.YtlbjfigdocbffaaTriLaw1
namespace Go.Proofs.Ytlbjfigdocbffaa
open Go.RowKit
set_option linter.unusedVariables false
set_option linter.unusedSimpArgs false

section
variable {n : Nat} {Y Y' : Tri.TW ByteArray} {R R' : Nat → Nat} {G G' : Nat → Prop} {lv lv' pos pos' : Nat → Nat} {at_ : Nat}
theorem ts_drop2 (h g m : Nat) (u : Value) (Z : Int → Bool) (ts : TS n Y R G lv pos) (hat : at_ < 4) :
    ∃ Y' G', TS n Y' (updF R at_ 0) G' lv pos ∧ SameBut Y Y' R at_ ∧ Y'.T = Y.T ∧ Y'.σ.e = Y.σ.e ∧ (∀ x, 0 < Y'.σ.c x → 0 < Y.σ.c x) ∧
      ∀ w, Hp w h g m n u (cOf Y.σ.c) Z Y.T → Calls Try.prog 14 #[.pointer (some ⟨h, 0, none⟩), .int .i64 (R at_ : Int)] w (HpG w h g m n u (cOf Y'.σ.c) Z Y'.T (.int .i64 0)) := by
  have ok := ts.ok.congrE (ext1 := Tri.plus (exceptX R at_) (Tri.oneZ (R at_))) (rootsX_at R hat)
  obtain ⟨Y', G', c1, c2⟩ := Drop_spec h g m n u Z ok (fun h0 => (ts.rt at_ hat h0).1) ts.lt
  refine ⟨Y', G', ⟨c1.ok.congrE fun x => ?_, fun i hi h0 => ?_, fun x hx => ts.lt x (c1.c x hx)⟩, fun i hi hne k => ?_, c1.t, c1.e, c1.c, c2⟩
  · have := rootsX_split R hat 0 x
    rw [this]; unfold Tri.plus; rw [Tri.oneZ_zero]; rfl
  · by_cases e : i = at_
    · subst e; rw [updF_same] at h0; exact absurd rfl h0
    · rw [updF_other e] at h0 ⊢; exact ts.rt i hi h0
  · unfold treeF; rw [c1.e, c1.t]
theorem used_le_of {c c' : Nat → Nat} (h : ∀ x, 0 < c' x → 0 < c x) (n : Nat) : usedTo (cOf c') n ≤ usedTo (cOf c) n :=
  usedTo_mono n fun x _ hx => by
    unfold cOf at hx ⊢
    split
    · omega
    · next h3 => rw [if_neg h3] at hx; exact h x hx
theorem treeF_none (e : Nat → Nat → Nat) (T : Nat → ByteArray) (r k : Nat) : treeF e T r k = none ↔ Tri.get e 3 r k = 0 := by
  unfold treeF
  by_cases z : Tri.get e 3 r k = 0
  · rw [if_pos z]; exact ⟨fun _ => z, fun _ => rfl⟩
  · rw [if_neg z]; exact ⟨fun h => (by cases h), fun h => absurd h z⟩
theorem wayP_supp {f f' : Nat → Nat} (h : ∀ k, k < 4096 → (f k = 0 ↔ f' k = 0)) : wayP f = wayP f' := by
  funext z
  rw [Bool.eq_iff_iff, wayP_iff, wayP_iff]
  exact ⟨fun ⟨k, d, h1, h2, h3, h4⟩ => ⟨k, d, h1, h2, fun y => h3 ((h k h1).2 y), h4⟩, fun ⟨k, d, h1, h2, h3, h4⟩ => ⟨k, d, h1, h2, fun y => h3 ((h k h1).1 y), h4⟩⟩
/-- A single tree with the same keys uses as many blocks. -/
theorem used_same (hn : n ≤ 200) (hn3 : 3 ≤ n) (ts : TS n Y R G lv pos) (ts' : TS n Y' R' G' lv' pos') (h1 : ∀ i, i < 4 → i ≠ 0 → R i = 0) (h2 : ∀ i, i < 4 → i ≠ 0 → R' i = 0)
    (hf : ∀ k, k < 4096 → (Tri.get Y.σ.e 3 (R 0) k = 0 ↔ Tri.get Y'.σ.e 3 (R' 0) k = 0)) : usedTo (cOf Y.σ.c) n = usedTo (cOf Y'.σ.c) n := by
  rw [used_one hn hn3 ts (by omega) h1, used_one hn hn3 ts' (by omega) h2, wayP_supp hf]
theorem cntP_add {p q : Nat → Bool} {n : Nat} (l : List Nat) (h : ∀ z, z < n → p z = true → q z = true ∨ z ∈ l) : cntP p n ≤ cntP q n + l.length := by
  unfold cntP
  rw [← List.length_append]
  refine nodup_le2 ((List.nodup_range (n := n)).filter p) fun z hz => ?_
  have hz2 := List.mem_filter.1 hz
  rcases h z (by simpa using hz2.1) hz2.2 with h1 | h1
  · exact List.mem_append.2 (.inl (List.mem_filter.2 ⟨hz2.1, h1⟩))
  · exact List.mem_append.2 (.inr h1)
/-- A tree with one key more uses at most four blocks more. -/
theorem used_more {key : Nat} (hn : n ≤ 200) (hn3 : 3 ≤ n) (ts : TS n Y R G lv pos) (ts' : TS n Y' R' G' lv' pos') (h1 : ∀ i, i < 4 → i ≠ 0 → R i = 0) (h2 : ∀ i, i < 4 → i ≠ 0 → R' i = 0)
    (hf : ∀ k, k < 4096 → k ≠ key → Tri.get Y'.σ.e 3 (R' 0) k ≠ 0 → Tri.get Y.σ.e 3 (R 0) k ≠ 0) : usedTo (cOf Y'.σ.c) n ≤ usedTo (cOf Y.σ.c) n + 4 := by
  rw [used_one hn hn3 ts (by omega) h1, used_one hn hn3 ts' (by omega) h2]
  have := cntP_add (p := wayP (Tri.get Y'.σ.e 3 (R' 0))) (q := wayP (Tri.get Y.σ.e 3 (R 0))) (n := 4369) ((List.range 4).map fun d => offD d + key / 16 ^ (3 - d)) (fun z _ hz => by
    obtain ⟨k, d, k1, k2, k3, k4⟩ := (wayP_iff _ _).1 hz
    by_cases e : k = key
    · subst e
      exact .inr (List.mem_map.2 ⟨d, by simp; omega, k4.symm⟩)
    · exact .inl ((wayP_iff _ _).2 ⟨k, d, k1, k2, hf k k1 e k3, k4⟩))
  rw [List.length_map, List.length_range] at this
  omega
theorem updF_upd (R : Nat → Nat) (i a b : Nat) : updF (updF R i a) i b = updF R i b := by
  funext j; unfold updF; split <;> rfl
/-- A tree with the same keys is nothing just if the other is. -/
theorem root_none (ts : TS n Y R G lv pos) (ts' : TS n Y' R' G' lv' pos') (hf : ∀ k, k < 4096 → (Tri.get Y.σ.e 3 (R 0) k = 0 ↔ Tri.get Y'.σ.e 3 (R' 0) k = 0)) : R 0 = 0 ↔ R' 0 = 0 := by
  refine ⟨fun h => ?_, fun h => ?_⟩
  · apply Classical.byContradiction
    intro hne
    obtain ⟨q1, q2, _⟩ := ts'.root (i := 0) (by omega) hne
    obtain ⟨k, k1, k2⟩ := some_key ts'.ok.i 3 _ q1 q2
    exact k2 ((hf k k1).1 (by rw [h, Tri.get_zero]))
  · apply Classical.byContradiction
    intro hne
    obtain ⟨q1, q2, _⟩ := ts.root (i := 0) (by omega) hne
    obtain ⟨k, k1, k2⟩ := some_key ts.ok.i 3 _ q1 q2
    exact k2 ((hf k k1).2 (by rw [h, Tri.get_zero]))
end
set_option maxRecDepth 100000 in
set_option maxHeartbeats 8000000 in
theorem tback_walk (v0 : Value) (a1 : Int) (l0 : List OpR) (W : World) (R0 : ReadsE opE W v0 l0) (F0 : ∀ p ∈ l0, OpOk p) (n1 : -9223372036854775808 ≤ a1 ∧ a1 ≤ 9223372036854775807) :
    Calls Try.prog 7 #[v0, .int .i64 a1] W fun e w' => e = .returned (.bool true) ∧ Below W.heap.size W w' := by
  have ca := awake_any W
  have HR0 := Lib.hid R0
  have HF0 := Lib.hid F0
  clear R0 F0
  go_enter Try.func7, Try.ntmps7
  go_wp2_with (fail)
  refine ca.mono ?_
  rintro e w1 ⟨rfl, b1⟩
  have cb := begins_any w1
  have s1 := b1.size
  go_wp2_with (fail)
  refine cb.mono ?_
  rintro e w2 ⟨bk, rb, kb, tb, h, g, m, u, Y0, Z0, R0, G0, lv0, pos0, kv0, tv0, rfl, B2, b2, hd, _, _⟩
  have hd0 : W.heap.size ≤ rb ∧ W.heap.size ≤ kb ∧ W.heap.size ≤ tb ∧ W.heap.size ≤ g ∧ W.heap.size ≤ m := by omega
  have b12 : Below W.heap.size W w2 := b1.trans (b2.mono s1)
  have s2 := b12.size
  have cp := plays_come B2 HR0.out HF0.out b12 hd0
  have H2 := Lib.hid b12
  clear b12 ca cb b1 b2
  go_wp2_with (fail)
  refine cp.mono ?_
  rintro e w3 ⟨rfl, T3, Y, Z, R, G, lv, pos, kv, tv, B3⟩
  have H3 := Lib.hid (H2.out.trans (T3.below s2 hd0))
  have hsz3 := H3.out.size
  have HB3 := Lib.hid B3
  have hU : usedTo (cOf Y.σ.c) 240 = usedTo (cOf Y.σ.c) 200 := used240 B3.hp.small
  have hU2 : usedTo (cOf Y.σ.c) 200 ≤ 200 := used_le _ _
  have cfree := free_any g 200 (cOf Y.σ.c) w3 B3.hp.t B3.hp.small
  rw [hU] at cfree
  have ct0 := B3.bw.c0
  clear hU B2 B3 T3 cp
  have hkl := keyN_lt a1
  have ckey := fun W => key_any a1 W n1.1 n1.2
  generalize keyN a1 = key at *
  by_cases hroom : usedTo (cOf Y.σ.c) 200 + 8 ≤ 200
  · have t1 : ¬ ((200 : Int) - ((usedTo (cOf Y.σ.c) 200 : Nat) : Int) < 8) := by omega
    go_wp2_with (fail)
    refine cfree.mono ?_
    rintro e w4 ⟨rfl, kk, hw4⟩
    have q4 : Below w3.heap.size w3 w4 := by rw [hw4]; exact below_drewN _ _
    have ck := ckey w4
    have H4 := Lib.hid q4
    clear q4 hw4 cfree ct0 ckey
    go_wp2_with (fail)
    refine ck.mono ?_
    rintro e w5 ⟨rfl, q5⟩
    have q35 := H4.out.trans (q5.mono H4.out.size)
    have B5 := HB3.out.below q35
    have c1 := B5.bw.c1
    have c2 := B5.bw.c2
    have cr := B5.bw.cr (i := 0) (by omega)
    have cfd := find_spec B5.hp B5.ts.ok B5.ts.lt (B5.ts.root (i := 0) (by omega)) hkl
    have HB5 := Lib.hid B5
    have H5 := Lib.hid q35
    clear q5 q35 B5 ck H4 HB3
    go_wp2_with (fail)
    refine cfd.mono ?_
    rintro e w6 ⟨rfl, q6⟩
    have H6 := Lib.hid (H5.out.trans (q6.mono H5.out.size))
    have HB6 := Lib.hid (HB5.out.below q6)
    clear q6 cfd H5 HB5 c1 c2 cr
    by_cases hget : Tri.get Y.σ.e 3 (R 0) key = 0
    · have tz : (((Tri.get Y.σ.e 3 (R 0) key : Nat) : Int) != 0) = false := by rw [hget]; rfl
      generalize ((Tri.get Y.σ.e 3 (R 0) key : Nat) : Int) = gk at *
      have HT : Hid (BTo w3 g m rb kb tb w6) := Lib.hid (BTo.quiet H6.out)
      clear H6
      go_wp2_with (fail)
      go_loopw [10] (fun i wr => ∃ (q : Nat) (Y1 : Tri.TW ByteArray) (R1 : Nat → Nat) (G1 : Nat → Prop) (kv1 tv1 : Nat → Value), 1 ≤ q ∧ q ≤ 4 ∧ i = .int .i64 (q : Int) ∧ Bk wr bk rb kb tb h g m u Y1 Z R1 G1 lv pos kv1 tv1 ∧ BTo w3 g m rb kb tb wr ∧ Y1.T = Y.T ∧ Y1.σ.e = Y.σ.e ∧ (∀ x, 0 < Y1.σ.c x → 0 < Y.σ.c x) ∧ R1 0 = R 0 ∧ ∀ i, 1 ≤ i → i < q → R1 i = 0) (fun i _ => 4 - (intOf i).toNat)
      case atStart => exact ⟨1, Y, R, G, kv, tv, by omega, by omega, rfl, HB6.out, HT.out, rfl, rfl, fun _ hx => hx, rfl, fun i h1 h2 => by omega⟩
      case round =>
        clear HB6 HT
        obtain ⟨i, Y1, R1, G1, kv1, tv1, hi1, hi4, rfl, hb, hB, hT1, he1, hc1, hr1, hz1⟩ := hrel
        rename World => wr
        by_cases hlt : i < 4
        · have y1 : (i : Int) < 4 := by omega
          obtain ⟨Y2, G2, ts2, hsb, hT2, he2, hc2, hdrop⟩ := ts_drop2 h g m u Z hb.ts hlt
          have hko : Hid (∀ j, j < 4 → updF (fun j => treeL Y1.σ.e Y1.T (R1 j)) i [] j = treeL Y2.σ.e Y2.T (updF R1 i 0 j)) := Lib.hid (keysOther hsb drop_tree.symm)
          have D : Below wr.heap.size wr wr.drew := ⟨rfl, rfl, rfl, Nat.le_refl _, fun _ _ => rfl⟩
          have bd := hb.below D
          have cc := hdrop wr.drew bd.hp
          have hA := Lib.hid hb.A
          have HX : Hid (Y2.T = Y.T ∧ Y2.σ.e = Y.σ.e ∧ (∀ x, 0 < Y2.σ.c x → 0 < Y.σ.c x) ∧ updF R1 i 0 0 = R 0 ∧ ∀ j, 1 ≤ j → j < i + 1 → updF R1 i 0 j = 0) := Lib.hid ⟨hT2.trans hT1, he2.trans he1, fun x hx => hc1 x (hc2 x hx), by rw [updF_other (by omega)]; exact hr1, fun j h1 h2 => by
            by_cases e : j = i
            · subst e; exact updF_same _ _ _
            · rw [updF_other e]; exact hz1 j h1 (by omega)⟩
          have HTS := Lib.hid ts2
          have HD := Lib.hid (hB.trans (BTo.quiet (rb := rb) (kb := kb) (tb := tb) (g := g) (m := m) D))
          have HBD := Lib.hid bd
          have HS : Hid (∀ W, HTo wr.drew g m W → W.cell? ⟨bk, 1, none⟩ = some (.pointer (some ⟨h, 0, none⟩)) ∧ W.cell? ⟨bk, 2, none⟩ = some (.slice (some ⟨rb, 0, none⟩) 4 4) ∧ W.cell? ⟨rb, i, none⟩ = some (.int .i64 (R1 i : Int))) := Lib.hid fun W hW => by
            have H2 := HBD.out.bw.to hA.out hW
            exact ⟨H2.c1, H2.c2, H2.cr hlt⟩
          clear hdrop ts2 hsb hT2 he2 hc2 hT1 he1 hc1 hr1 hz1 hb hB D bd
          go_upto_region 15 with (fail)
          refine wp_region_held_drew (S := fun W => W.cell? ⟨bk, 1, none⟩ = some (.pointer (some ⟨h, 0, none⟩)) ∧ W.cell? ⟨bk, 2, none⟩ = some (.slice (some ⟨rb, 0, none⟩) 4 4) ∧ W.cell? ⟨rb, i, none⟩ = some (.int .i64 (R1 i : Int))) (by kernel_rfl) (HS.out _ (HTo.refl _ _ _)) (fun hHeld => ?_)
          refine wpAnyH_takeD (i := 0) (some 69) rfl (by kernel_rfl) (by kernel_rfl) (by kernel_rfl) rfl (fun _ _ _ h => h) (Or.inl ⟨by rfl, by rintro w ⟨hs1, hs2, hs3⟩; go_simp; try rfl⟩) (by assumption) ?_
          simp only [Act.put, List.setIfInBounds_toArray, List.set_cons_zero, List.set_cons_succ]
          refine wpAnyH_takeD (i := 1) (some 70) rfl (by kernel_rfl) (by kernel_rfl) (by kernel_rfl) rfl (fun _ _ _ h => h) (Or.inl ⟨by rfl, by rintro w ⟨hs1, hs2, hs3⟩; go_simp; try rfl⟩) (by assumption) ?_
          simp only [Act.put, List.setIfInBounds_toArray, List.set_cons_zero, List.set_cons_succ]
          refine wpAnyH_takeD (i := 2) (some 71) rfl (by kernel_rfl) (by kernel_rfl) (by kernel_rfl) rfl (fun _ _ _ h => h) (Or.inl ⟨by rfl, by rintro w ⟨hs1, hs2, hs3⟩; go_simp; try rfl⟩) (by assumption) ?_
          simp only [Act.put, List.setIfInBounds_toArray, List.set_cons_zero, List.set_cons_succ]
          refine wpAnyH_takeD (i := 3) (some 72) rfl (by kernel_rfl) (by kernel_rfl) (by kernel_rfl) rfl (fun _ _ _ h => h) (Or.inl ⟨by rfl, by rintro w ⟨hs1, hs2, hs3⟩; go_simp; try rfl⟩) (by assumption) ?_
          simp only [Act.put, List.setIfInBounds_toArray, List.set_cons_zero, List.set_cons_succ]
          refine wpAnyH_takeD (i := 4) (some 73) rfl (by kernel_rfl) (by kernel_rfl) (by kernel_rfl) rfl (fun _ _ _ h => h) (Or.inl ⟨by rfl, by rintro w ⟨hs1, hs2, hs3⟩; go_simp; try rfl⟩) (by assumption) ?_
          simp only [Act.put, List.setIfInBounds_toArray, List.set_cons_zero, List.set_cons_succ]
          refine wpAnyH_takeD (i := 5) (some 74) rfl (by kernel_rfl) (by kernel_rfl) (by kernel_rfl) rfl (fun _ _ _ h => h) (Or.inl ⟨by rfl, by rintro w ⟨hs1, hs2, hs3⟩; go_simp; try rfl⟩) (by assumption) ?_
          simp only [Act.put, List.setIfInBounds_toArray, List.set_cons_zero, List.set_cons_succ]
          refine wpAnyH_takeD (i := 6) (some 75) rfl (by kernel_rfl) (by kernel_rfl) (by kernel_rfl) rfl (fun _ _ _ h => h) (Or.inl ⟨by rfl, by rintro w ⟨hs1, hs2, hs3⟩; go_simp; try rfl⟩) (by assumption) ?_
          simp only [Act.put, List.setIfInBounds_toArray, List.set_cons_zero, List.set_cons_succ]
          refine wpAnyH_takeD (i := 7) (some 76) rfl (by kernel_rfl) (by kernel_rfl) (by kernel_rfl) rfl (fun _ _ _ h => h) (Or.inl ⟨by rfl, by rintro w ⟨hs1, hs2, hs3⟩; go_simp; try rfl⟩) (by assumption) ?_
          simp only [Act.put, List.setIfInBounds_toArray, List.set_cons_zero, List.set_cons_succ]
          refine wpAnyH_takeD (i := 8) (some 77) rfl (by kernel_rfl) (by kernel_rfl) (by kernel_rfl) rfl (fun _ _ _ h => h) (Or.inl ⟨by rfl, by rintro w ⟨hs1, hs2, hs3⟩; go_simp; try rfl⟩) (by assumption) ?_
          simp only [Act.put, List.setIfInBounds_toArray, List.set_cons_zero, List.set_cons_succ]
          refine wpAnyH_takeD (i := 9) (some 78) rfl (by kernel_rfl) (by kernel_rfl) (by kernel_rfl) rfl (fun _ _ _ h => h) (Or.inl ⟨by rfl, by rintro w ⟨hs1, hs2, hs3⟩; go_simp; try rfl⟩) (by assumption) ?_
          simp only [Act.put, List.setIfInBounds_toArray, List.set_cons_zero, List.set_cons_succ]
          refine wpAnyH_takeD (i := 10) (some 79) rfl (by kernel_rfl) (by kernel_rfl) (by kernel_rfl) rfl (fun _ _ _ h => h) (Or.inl ⟨by rfl, by rintro w ⟨hs1, hs2, hs3⟩; go_simp; try rfl⟩) (by assumption) ?_
          simp only [Act.put, List.setIfInBounds_toArray, List.set_cons_zero, List.set_cons_succ]
          refine wpAnyH_ready (rs := [11]) (by kernel_rfl) (by simp) ?_
          refine AllReadyH.cons rfl (fun K hK => ?_) AllReadyH.nil
          go_simp
          refine cc.mono ?_
          rintro x w4 ⟨rfl, T4, hp4⟩
          refine hK.out _ _ (HS.out _ T4) (fun hHeld => ?_)
          clear hK
          try simp only [Act.put, List.setIfInBounds_toArray, List.set_cons_zero, List.set_cons_succ]
          refine wpAnyH_done (by kernel_rfl) ?_ _
          have bw4 := HBD.out.bw.to hA.out T4
          have B4 := HD.out.trans (BTo.hto (rb := rb) (kb := kb) (tb := tb) T4)
          have i2 := bw4.c2
          have ir : w4.frozen? ⟨rb, i, none⟩ = false := frozen_of_row _ _ _ _ _ bw4.r
          have bw5 := bw4.setR hA.out i 0
          have hp5 := hp_row hp4 hA.out i (.int .i64 ((0 : Nat) : Int)) (rb := rb) (bk := bk) (kb := kb) (tb := tb)
          have B5 := B4.trans (BTo.row (g := g) (m := m) (rb := rb) (kb := kb) (tb := tb) i (.int .i64 ((0 : Nat) : Int)))
          obtain ⟨w5, hw5⟩ : ∃ w5, w5 = w4.setCell ⟨rb, i, none⟩ (.int .i64 ((0 : Nat) : Int)) := ⟨_, rfl⟩
          rw [← hw5] at bw5 hp5 B5
          have hA' := hA.out
          have bwd : BkW w5 bk rb kb tb h g m (updF R1 i 0) _ _ _ := bw5.heap rfl (fun _ => rfl)
          have q3 := bwd.c3
          have qk := bwd.ck hlt
          have qf : w5.frozen? ⟨kb, i, none⟩ = false := frozen_of_row _ _ _ _ _ bwd.k
          obtain ⟨wa, hwa⟩ : ∃ wa, wa = (w5.setCell ⟨kb, i, none⟩ (.slice none 0 0)) := ⟨_, rfl⟩
          have hoa : ∀ k, k ≠ kb → wa.heap[k]? = w5.heap[k]? := fun k hk => by
            show wa.heap[k]? = _
            rw [hwa]; exact Below.heap_setCell _ _ _ _ (fun e => hk (by have e : k = kb := e; exact e))
          have q4 : wa.cell? ⟨bk, 4, none⟩ = some (.slice (some ⟨tb, 0, none⟩) 4 4) := by rw [← bw5.c4]; exact cell_of_heap (hoa bk hA'.bk_) 4
          have qt : ∀ j, j < 4 → wa.cell? ⟨tb, j, none⟩ = some (tv1 j) := fun j hj => by rw [← bw5.ct hj]; exact cell_of_heap (hoa tb hA'.kt.symm) j
          have ft : wa.frozen? ⟨tb, i, none⟩ = false := frozen_of_row _ _ _ _ _ ((hoa tb hA'.kt.symm).trans bw5.t)
          obtain ⟨wb, hwb⟩ : ∃ wb, wb = (wa.setCell ⟨tb, i, none⟩ (.slice none 0 0)) := ⟨_, rfl⟩
          have KT5 : KTo w5 kb tb i (.slice none 0 0) (.slice none 0 0) wb := ⟨by first | (rw [hwb, hwa]; done) | (rw [hwb, hwa]; rfl), by first | (rw [hwb, hwa]; done) | (rw [hwb, hwa]; rfl), by first | (rw [hwb, hwa]; done) | (rw [hwb, hwa]; rfl), by first | (rw [hwb, hwa]; done) | (rw [hwb, hwa]; simp; done) | (rw [hwb, hwa]; simp; rfl), fun k => by first | (rw [hwb, hwa]; done) | (rw [hwb, hwa]; rfl)⟩
          have bw5_ := bw5.setKT hA' i hlt (.slice none 0 0) (.slice none 0 0) [] (.inl ⟨⟨_, _, rfl⟩, rfl⟩) (.inl ⟨⟨_, _, rfl⟩, rfl⟩) (by simp) (fun q hq => by cases hq) (fun q hq => by cases hq) (fun x n c e => by injection e; omega) (fun x n c e => by injection e; omega)
          have bw6 := bw5_.heap (w' := wb) (by rw [KT5.size]; simp) KT5.h
          have hp6 := hp_kto hp5 hA' KT5.hto
          have B6 := B5.trans (BTo.kto (rb := rb) (g := g) (m := m) KT5.hto)
          have hfin : Hid (Bk wb bk rb kb tb h g m u Y2 Z (updF R1 i 0) G2 lv pos _ _ ∧ BTo w3 g m rb kb tb wb) := Lib.hid ⟨⟨bw6.congrK hko.out, hp6, HTS.out, hA.out⟩, B6⟩
          have qt4 := qt i hlt
          clear T4 hp4 bw4 B4 cc HBD HD bwd hoa qt KT5 bw5_ bw6 hp6 B6 hA' hp5 B5
          go_upto_region 17 with (fail)
          simp only [show ((0 : Nat) : Int) = 0 from rfl] at hw5
          rw [← hw5]
          clear hw5
          go_upto_region 18 with (fail)
          rw [← hwa]
          clear hwa
          go_upto_region 14 with (fail)
          rw [← hwb]
          clear hwb
          go_wp2_with (fail)
          go_roundw
          case rel => exact ⟨i + 1, Y2, updF R1 i 0, G2, _, _, by omega, by omega, by go_num, hfin.out.1, hfin.out.2, HX.out⟩
          case measure => simp [intOf]; omega
        · obtain rfl : i = 4 := by omega
          have hone : ∀ i, i < 4 → i ≠ 0 → R1 i = 0 := fun i h1 h2 => hz1 i (by omega) h1
          have hU1 := used_le_of hc1 200
          have hget1 : Tri.get Y1.σ.e 3 (R1 0) key = 0 := by rw [he1, hr1]; exact hget
          have htf1 : treeF Y1.σ.e Y1.T (R1 0) key = none := (treeF_none _ _ _ _).2 hget1
          obtain ⟨t, ht, ht0, htl, t3, r, Y2, Z2, G2, lv2, pos2, ts2, sb2, tf2, hset⟩ := ts_set_z (at_ := 0) h g m u Z hb.ts (by omega) hkl (blockS 1) (by omega)
          have hone2 : ∀ i, i < 4 → i ≠ 0 → updF R1 0 r i = 0 := fun i h1 h2 => by rw [updF_other h2]; exact hone i h1 h2
          have room2 := used_more (key := key) (Nat.le_refl _) (by omega) hb.ts ts2 hone hone2 (fun k k1 k2 k3 e => k3 (by
            rw [updF_same, ← treeF_none _ Y2.T, tf2 k, Nat.mod_eq_of_lt k1, if_neg k2, treeF_none]; exact e))
          obtain ⟨r3, Y3, Z3, G3, lv3, pos3, ts3, sb3, tf3, -, hcut⟩ := ts_cut (key := key) (at_ := 0) h g m u Z2 (Nat.le_refl _) ts2 (by omega) hkl (by omega)
          rw [updF_upd] at ts3
          rw [updF_same] at hcut tf3
          have htr : ∀ k, k < 4096 → treeF Y3.σ.e Y3.T r3 k = treeF Y1.σ.e Y1.T (R1 0) k := fun k hk => by
            rw [tf3 k, tf2 k, Nat.mod_eq_of_lt hk]
            by_cases e : k = key
            · subst e; rw [if_pos rfl]; exact htf1.symm
            · rw [if_neg e, if_neg e]
          have hsupp : ∀ k, k < 4096 → (Tri.get Y1.σ.e 3 (R1 0) k = 0 ↔ Tri.get Y3.σ.e 3 (updF R1 0 r3 0) k = 0) := fun k hk => by
            rw [updF_same, ← treeF_none _ Y1.T, ← treeF_none _ Y3.T, htr k hk]
          have hone3 : ∀ i, i < 4 → i ≠ 0 → updF R1 0 r3 i = 0 := fun i h1 h2 => by rw [updF_other h2]; exact hone i h1 h2
          have hU3 := used_same (Nat.le_refl _) (by omega) hb.ts ts3 hone hone3 hsupp
          have hrn := root_none hb.ts ts3 hsupp
          rw [updF_same, hr1] at hrn
          have hK3 : Hid (∀ i, i < 4 → (fun i => treeL Y1.σ.e Y1.T (R1 i)) i = treeL Y3.σ.e Y3.T (updF R1 0 r3 i)) := Lib.hid fun i hi => by
            by_cases e : i = 0
            · subst e
              rw [updF_same]
              exact treeL_congr fun k hk => (htr k hk).symm
            · rw [hone3 i hi e]
              show treeL _ _ (R1 i) = _
              rw [hone i hi e, drop_tree, drop_tree]
          obtain ⟨bz, tr, tt⟩ : ∃ bz : Bool, ((((R 0 : Nat) : Int) == 0) = bz) ∧ ((((r3 : Nat) : Int) == 0) = bz) := ⟨_, rfl, by
            rw [Bool.eq_iff_iff, beq_iff_eq, beq_iff_eq]
            have := hrn
            omega⟩
          have hTS3 := Lib.hid ts3
          have hA := Lib.hid hb.A
          have hbs := blockS_size 1
          rw [hr1] at hset
          have HSET := Lib.hid hset
          have HCUT := Lib.hid hcut
          have cbl := fun W => block_any 1 W (by decide) (by decide)
          have hU0 : usedTo (cOf Y1.σ.c) 240 = usedTo (cOf Y1.σ.c) 200 := used240 hb.hp.small
          have cf1 := free_any g 200 (cOf Y1.σ.c) wr hb.hp.t hb.hp.small
          rw [hU0] at cf1
          have d0 := hb.bw.c0
          have hUm : usedTo (cOf Y1.σ.c) 200 ≤ 200 := used_le _ _
          obtain ⟨U, hU⟩ : ∃ U, usedTo (cOf Y1.σ.c) 200 = U := ⟨_, rfl⟩
          rw [hU] at cf1 hUm hU3
          have HU3 := Lib.hid hU3
          clear hU3
          have Hb := Lib.hid hb
          have HB := Lib.hid hB
          clear hb hB hT1 he1 hc1 hr1 hz1 hone hU1 hget1 htf1 ts2 sb2 tf2 hset hone2 room2 ts3 sb3 tf3 hcut htr hsupp hone3 hrn hU0 hU
          generalize blockS 1 = bs at *
          go_wp2_with (fail)
          refine cf1.mono ?_
          rintro e w7 ⟨rfl, kk, hw7⟩
          have q7 : Below wr.heap.size wr w7 := by rw [hw7]; exact below_drewN _ _
          have b7 := Hb.out.below q7
          have B7 := HB.out.trans (BTo.quiet (rb := rb) (kb := kb) (tb := tb) (g := g) (m := m) q7)
          have d0 := b7.bw.c0
          have cal := alloc_some g 200 (cOf Y1.σ.c) w7 b7.hp.t b7.hp.small t ht ht0 htl
          have H7 := Lib.hid b7
          have HB7 := Lib.hid B7
          clear q7 hw7 b7 B7 cf1 Hb HB
          go_wp2_with (fail)
          refine cal.mono ?_
          rintro e w8 ⟨rfl, T8⟩
          have hp8 : Hp w8 h g m 200 u (cOf (upd Y1.σ.c t 1)) Z Y1.T := by
            have := H7.out.hp.tab T8 (small_upd H7.out.hp.small ht (by omega))
            rw [cOf_upd _ t3] at this; exact this
          have bw8 := H7.out.bw.to hA.out (HTo.tab (m := m) T8)
          have B8 := HB7.out.trans (BTo.hto (rb := rb) (kb := kb) (tb := tb) (HTo.tab (m := m) T8))
          have D8 : Below w8.heap.size w8 w8.drew := ⟨rfl, rfl, rfl, Nat.le_refl _, fun _ _ => rfl⟩
          have HS : Hid (∀ W, HTo w8.drew g m W → W.cell? ⟨bk, 1, none⟩ = some (.pointer (some ⟨h, 0, none⟩))) := Lib.hid fun W hW => ((bw8.below D8).to hA.out hW).c1
          have cb9 := cbl w8.drew
          have hput : Hid (∀ W, Hp W h g m 200 u (cOf (upd Y1.σ.c t 1)) Z Y1.T → Calls Try.prog 22 #[.pointer (some ⟨h, 0, none⟩), .int .i64 (t : Int), .string bs] W (HpG W h g m 200 u (cOf (upd Y1.σ.c t 1)) (updZ Z (t : Int) true) (updX Y1.T t bs) (.int .i64 0))) := Lib.hid fun W ⟨F, hW⟩ => put_good hW t t3 ht (by rw [cOf_hi t3]; show 0 < upd _ _ _ _; unfold upd; rw [if_pos rfl]; omega) bs hbs
          have Hp8 := Lib.hid (hp8.below D8)
          have Hw8 := Lib.hid (bw8.below D8)
          have HB8 := Lib.hid (B8.trans (BTo.quiet D8))
          clear T8 hp8 bw8 B8 D8 cal H7 HB7 d0 cbl
          go_upto_region 21 with (fail)
          refine wp_region_held_drew (S := fun W => W.cell? ⟨bk, 1, none⟩ = some (.pointer (some ⟨h, 0, none⟩))) (by kernel_rfl) (HS.out _ (HTo.refl _ _ _)) (fun hHeld => ?_)
          refine wpAnyH_takeD (i := 0) (some 112) rfl (by kernel_rfl) (by kernel_rfl) (by kernel_rfl) rfl (fun _ _ _ h => h) (Or.inl ⟨by rfl, by rintro w hs1; go_simp; try rfl⟩) (by assumption) ?_
          simp only [Act.put, List.setIfInBounds_toArray, List.set_cons_zero, List.set_cons_succ]
          refine wpAnyH_takeD (i := 1) (some 113) rfl (by kernel_rfl) (by kernel_rfl) (by kernel_rfl) rfl (fun _ _ _ h => h) (Or.inl ⟨by rfl, by rintro w hs1; go_simp; try rfl⟩) (by assumption) ?_
          simp only [Act.put, List.setIfInBounds_toArray, List.set_cons_zero, List.set_cons_succ]
          refine wpAnyH_takeD (i := 2) (some 114) rfl (by kernel_rfl) (by kernel_rfl) (by kernel_rfl) rfl (fun _ _ _ h => h) (Or.inl ⟨by rfl, by rintro w hs1; go_simp; try rfl⟩) (by assumption) ?_
          simp only [Act.put, List.setIfInBounds_toArray, List.set_cons_zero, List.set_cons_succ]
          refine wpAnyH_takeD (i := 3) (some 115) rfl (by kernel_rfl) (by kernel_rfl) (by kernel_rfl) rfl (fun _ _ _ h => h) (Or.inl ⟨by rfl, by rintro w hs1; go_simp; try rfl⟩) (by assumption) ?_
          simp only [Act.put, List.setIfInBounds_toArray, List.set_cons_zero, List.set_cons_succ]
          refine wpAnyH_takeD (i := 4) (some 116) rfl (by kernel_rfl) (by kernel_rfl) (by kernel_rfl) rfl (fun _ _ _ h => h) (Or.inl ⟨by rfl, by rintro w hs1; go_simp; try rfl⟩) (by assumption) ?_
          simp only [Act.put, List.setIfInBounds_toArray, List.set_cons_zero, List.set_cons_succ]
          refine wpAnyH_ready (rs := [5]) (by kernel_rfl) (by simp) ?_
          refine AllReadyH.cons rfl (fun K hK => ?_) AllReadyH.nil
          go_simp
          refine cb9.mono ?_
          rintro x w9 ⟨rfl, q9⟩
          refine hK.out _ _ (HS.out _ (HTo.quiet q9)) (fun hHeld => ?_)
          clear hK
          try simp only [Act.put, List.setIfInBounds_toArray, List.set_cons_zero, List.set_cons_succ]
          have cp10 := hput.out w9 (Hp8.out.below q9)
          have Hq9 := Lib.hid q9
          clear q9 cb9
          refine wpAnyH_ready (rs := [6]) (by kernel_rfl) (by simp) ?_
          refine AllReadyH.cons rfl (fun K hK => ?_) AllReadyH.nil
          go_simp
          refine cp10.mono ?_
          rintro x w10 ⟨rfl, T10, hp10⟩
          have T910 : HTo w8.drew g m w10 := (HTo.quiet Hq9.out).trans T10
          refine hK.out _ _ (HS.out _ T910) (fun hHeld => ?_)
          clear hK cp10
          try simp only [Act.put, List.setIfInBounds_toArray, List.set_cons_zero, List.set_cons_succ]
          refine wpAnyH_takeD (i := 7) (v := Value.int .i64 0) (some 14) rfl (by kernel_rfl) (by kernel_rfl) (by kernel_rfl) rfl (fun _ _ _ h => h) (Or.inl ⟨by rfl, by rintro w hs1; go_simp; try rfl⟩) (by assumption) ?_
          simp only [Act.put, List.setIfInBounds_toArray, List.set_cons_zero, List.set_cons_succ]
          refine wpAnyH_done (by kernel_rfl) ?_ _
          have bw10 := Hw8.out.to hA.out T910
          have B10 := HB8.out.trans (BTo.hto (rb := rb) (kb := kb) (tb := tb) T910)
          have d1 := bw10.c1
          have cset := HSET.out w10 hp10
          have H10 := Lib.hid bw10
          have HB10 := Lib.hid B10
          clear T10 T910 hp10 bw10 B10 Hq9 Hw8 HB8 Hp8
          go_wp2_with (fail)
          refine cset.mono ?_
          rintro e w11 ⟨rfl, T11, hp11⟩
          have bw11 := H10.out.to hA.out T11
          have B11 := HB10.out.trans (BTo.hto (rb := rb) (kb := kb) (tb := tb) T11)
          have d1 := bw11.c1
          have ccut := HCUT.out w11 hp11
          have H11 := Lib.hid bw11
          have HB11 := Lib.hid B11
          clear T11 hp11 bw11 B11 H10 HB10 cset
          go_wp2_with (fail)
          refine ccut.mono ?_
          rintro e w12 ⟨rfl, T12, hp12⟩
          have bw12 := H11.out.to hA.out T12
          have B12 := HB11.out.trans (BTo.hto (rb := rb) (kb := kb) (tb := tb) T12)
          have d2 := bw12.c2
          have er := bw12.cr (i := 0) (by omega)
          have fr : w12.frozen? ⟨rb, 0, none⟩ = false := frozen_of_row _ _ _ _ _ bw12.r
          have bE := bk_fin (at_ := 0) bw12 hp12 hA.out hTS3.out hK3.out
          have BE := B12.trans (BTo.row (g := g) (m := m) (rb := rb) (kb := kb) (tb := tb) 0 (.int .i64 (r3 : Int)))
          obtain ⟨wE, hwE⟩ : ∃ wE, wE = w12.setCell ⟨rb, 0, none⟩ (.int .i64 (r3 : Int)) := ⟨_, rfl⟩
          rw [← hwE] at bE BE
          have e0 := bE.bw.c0
          have cf2 := free_any g 200 (cOf Y3.σ.c) wE bE.hp.t bE.hp.small
          rw [used240 bE.hp.small, ← HU3.out] at cf2
          have HE := Lib.hid bE
          have HBE := Lib.hid BE
          clear T12 hp12 bw12 B12 H11 HB11 ccut bE BE
          go_upto_region 25 with (fail)
          rw [← hwE]
          clear hwE
          go_wp2_with (fail)
          refine cf2.mono ?_
          rintro e wF ⟨rfl, kk2, hwF⟩
          have qF : Below wE.heap.size wE wF := by rw [hwF]; exact below_drewN _ _
          have cr := right_any (HE.out.below qF)
          have BF := HBE.out.trans (BTo.quiet (rb := rb) (kb := kb) (tb := tb) (g := g) (m := m) qF)
          have HF := Lib.hid BF
          clear hwF qF BF cf2 HE HBE
          go_wp2_with (fail)
          refine cr.mono ?_
          rintro e wG ⟨rfl, qG⟩
          have hfin := Lib.hid (H3.out.trans ((HF.out.trans (BTo.quiet (rb := rb) (kb := kb) (tb := tb) (g := g) (m := m) qG)).below hsz3 hd0))
          clear qG cr
          cases bz
          · go_wp2_with (fail)
            go_ret
            exact ⟨rfl, hfin.out⟩
          · go_wp2_with (fail)
            go_ret
            exact ⟨rfl, hfin.out⟩
    · have tz : (((Tri.get Y.σ.e 3 (R 0) key : Nat) : Int) != 0) = true := by rw [bne_iff_ne]; omega
      have hfin := Lib.hid (H3.out.trans (H6.out.mono hsz3))
      generalize ((Tri.get Y.σ.e 3 (R 0) key : Nat) : Int) = gk at *
      clear H6
      go_wp2_with (fail)
      go_ret
      exact ⟨rfl, hfin.out⟩
  · have t1 : (200 : Int) - ((usedTo (cOf Y.σ.c) 200 : Nat) : Int) < 8 := by omega
    go_wp2_with (fail)
    refine cfree.mono ?_
    rintro e w4 ⟨rfl, kk, hw4⟩
    have q4 : Below w3.heap.size w3 w4 := by rw [hw4]; exact below_drewN _ _
    have hfin := Lib.hid (H3.out.trans (q4.mono hsz3))
    clear q4 hw4
    go_wp2_with (fail)
    go_ret
    exact ⟨rfl, hfin.out⟩
end Go.Proofs.Ytlbjfigdocbffaa
