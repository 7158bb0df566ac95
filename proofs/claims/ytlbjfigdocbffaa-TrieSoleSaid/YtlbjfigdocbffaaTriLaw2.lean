/- trie: who comes to a block: the walk. -/
import Derived.Test.YtlbjfigdocbffaaTriLaw1
namespace Go.Proofs.Ytlbjfigdocbffaa
open Go.RowKit
set_option linter.unusedVariables false
set_option linter.unusedSimpArgs false

section
variable {n : Nat} {Y : Tri.TW ByteArray} {R : Nat → Nat} {G : Nat → Prop} {lv pos : Nat → Nat}
theorem rootsX_two {i k : Nat} (hi : i < 4) (hk : k < 4) (hne : k ≠ i) (h0 : R i ≠ 0) (e : R k = R i) : 2 ≤ rootsX R (R i) := by
  have h1 := rootsX_at R hi (R i)
  have h2 := exceptX_pos R (at_ := i) hk hne (by rw [e]; exact h0)
  rw [e] at h2
  unfold Tri.plus at h1
  rw [Tri.oneZ_pos h0, Tri.one_same] at h1
  omega
theorem rootsX_other {i x : Nat} (hi : i < 4) (h : 2 ≤ rootsX R x) (e : R i = x) : ∃ k, k < 4 ∧ k ≠ i ∧ R k = x := by
  have h1 := rootsX_at R hi x
  have h2 := oneZ_le1 (R i) x
  unfold Tri.plus at h1
  obtain ⟨k, hk, hf⟩ := Tri.sumTo_pos 4 (show 0 < exceptX R i x by omega)
  by_cases e2 : k = i
  · rw [if_pos e2] at hf; omega
  · rw [if_neg e2] at hf
    by_cases h0 : R k = 0
    · rw [h0, Tri.oneZ_zero] at hf; exact absurd hf (Nat.lt_irrefl 0)
    · rw [Tri.oneZ_pos h0] at hf
      exact ⟨k, hk, e2, (one_pos hf).symm⟩
theorem soleV_iff (c : Nat → Nat) (e : Nat → Nat → Nat) (r key j : Nat) : soleV c e r key j = true ↔ ∀ d, d < j → c (Tri.walkTo e r d (key / 16 ^ (3 - d))) = 1 := by
  unfold soleV
  rw [List.all_eq_true]
  exact ⟨fun h d hd => by simpa using h d (by simpa using hd), fun h d hd => by simpa using h d (by simpa using hd)⟩
/-- Nobody else comes to a block, just if each block on the way has one reference. -/
theorem sole_iff (ts : TS n Y R G lv pos) {i key : Nat} (hi : i < 4) (hk : key < 4096) (hne : Tri.get Y.σ.e 3 (R i) key ≠ 0) :
    soleR Y.σ.c Y.σ.e (R i) key = true ↔ ∀ k, k < 4 → k ≠ i → Tri.get Y.σ.e 3 (R k) key ≠ Tri.get Y.σ.e 3 (R i) key := by
  have hroot : ∀ r, 0 < rootsX R r → lv r = 3 ∧ pos r = 0 := fun r hr => by
    obtain ⟨i, hi, h2, h3⟩ := rootsX_some hr
    have := ts.rt i hi (by rw [h2]; exact h3)
    rw [h2] at this; exact this
  have hL := inv_top ts.ok.i (fun r hr => (hroot r hr).1)
  have hR0 : R i ≠ 0 := fun e => by rw [e, Tri.get_zero] at hne; exact hne rfl
  obtain ⟨g1, g2, g3⟩ := ts.root hi hR0
  have hw3 : ∀ r, Tri.get Y.σ.e 3 r key = Tri.walkTo Y.σ.e r 3 key := fun r => by
    have := walk_get Y.σ.e r key 3 hk (Nat.le_refl _)
    rw [this]
    show Tri.walkTo Y.σ.e r 3 (key / 16 ^ 0) = _
    rw [Nat.pow_zero, Nat.div_one]
  have hwk : ∀ d, d ≤ 3 → Tri.walkTo Y.σ.e (R i) d (key / 16 ^ (3 - d)) ≠ 0 := fun d hd z => by
    have := walk_get Y.σ.e (R i) key d hk hd
    rw [z, Tri.get_zero] at this
    exact hne this
  have hall : soleR Y.σ.c Y.σ.e (R i) key = true ↔ ∀ d, d ≤ 3 → Y.σ.c (Tri.walkTo Y.σ.e (R i) d (key / 16 ^ (3 - d))) = 1 := by
    unfold soleR
    rw [Bool.and_eq_true, Bool.and_eq_true, soleV_iff, decide_eq_true_iff, decide_eq_true_iff]
    refine ⟨fun ⟨⟨h1, _⟩, h2⟩ d hd => ?_, fun h => ⟨⟨fun d hd => h d (by omega), hne⟩, ?_⟩⟩
    · by_cases e : d = 3
      · subst e
        rw [hw3] at h2
        rw [Nat.sub_self, Nat.pow_zero, Nat.div_one]; exact h2
      · exact h1 d (by omega)
    · have := h 3 (by omega)
      rw [Nat.sub_self, Nat.pow_zero, Nat.div_one] at this
      rw [hw3]; exact this
  rw [hall]
  refine ⟨fun h k hk4 hki e => ?_, fun h d hd => ?_⟩
  · have hk0 : R k ≠ 0 := fun z => by rw [z, Tri.get_zero] at e; exact hne e.symm
    obtain ⟨q1, q2, q3⟩ := ts.root hk4 hk0
    have hrr := ts.ok.i.one_way g1 ⟨g2, g3⟩ q1 ⟨q2, q3⟩ 3 key (Nat.le_refl _) hk (fun j hj => by
      have := h (3 - j) (by omega)
      rw [show 3 - (3 - j) = j by omega] at this; exact this) (by rw [← hw3]; exact hne) (by rw [← hw3, ← hw3]; exact e)
    have h2 := rootsX_two hi hk4 hki hR0 hrr.symm
    have h3 := ts.ok.i.cnt _ g1
    have h4 := h 0 (by omega)
    have h5 : Tri.walkTo Y.σ.e (R i) 0 (key / 16 ^ (3 - 0)) = R i := rfl
    rw [h5] at h4
    omega
  · apply Classical.byContradiction
    intro hc
    have hG := (ts.ok.i.walk_at g1 ⟨g2, g3⟩ d _ hd (div_lt hk hd) (hwk d hd)).1
    have hpos := (ts.ok.i.all _).2 (.inl hG)
    have other : ∀ k, k < 4 → k ≠ i → Tri.walkTo Y.σ.e (R k) d (key / 16 ^ (3 - d)) = Tri.walkTo Y.σ.e (R i) d (key / 16 ^ (3 - d)) → False := fun k hk4 hki e => by
      refine h k hk4 hki ?_
      rw [walk_get Y.σ.e (R k) key d hk hd, e, ← walk_get Y.σ.e (R i) key d hk hd]
    match d, hd with
    | 0, _ =>
      have h5 : Tri.walkTo Y.σ.e (R i) 0 (key / 16 ^ (3 - 0)) = R i := rfl
      rw [h5] at hc hpos
      have h3 := ts.ok.i.cnt _ g1
      by_cases hx : 2 ≤ rootsX R (R i)
      · obtain ⟨k, k1, k2, k3⟩ := rootsX_other hi hx rfl
        exact other k k1 k2 (by rw [k3])
      · obtain ⟨p, hp, hm⟩ := Tri.sumTo_pos 200 (show 0 < Tri.refs Y.σ G lv (R i) by omega)
        by_cases hg : G p ∧ 0 < lv p
        · rw [if_pos hg] at hm
          obtain ⟨j, hj, e2⟩ := Tri.mul_pos hm
          obtain ⟨_, k2, _⟩ := ts.ok.i.int p j hg.1 hg.2 hj (by rw [e2]; exact hR0)
          rw [e2] at k2
          have := hL p hg.1
          omega
        · rw [if_neg hg] at hm; omega
    | d + 1, hd =>
      obtain ⟨r', r1, r2, r3⟩ := ts.ok.i.other_way hroot hL g1 ⟨g2, g3⟩ d _ (by omega) (div_lt hk hd) (hwk (d + 1) hd) (by omega)
      obtain ⟨k, k1, k2, _⟩ := rootsX_some r1
      subst k2
      exact other k k1 (fun e => r2 (by rw [e])) r3
/-- How many others come to a block. -/
def othN (f : Nat → Nat) (i : Nat) : Nat → Nat
  | 0 => 0
  | k + 1 => othN f i k + if k ≠ i ∧ f k = f i then 1 else 0
theorem othN_zero (f : Nat → Nat) (i : Nat) : ∀ n, othN f i n = 0 ↔ ∀ k, k < n → k ≠ i → f k ≠ f i
  | 0 => ⟨fun _ k hk => absurd hk (Nat.not_lt_zero _), fun _ => rfl⟩
  | n + 1 => by
    rw [show othN f i (n + 1) = othN f i n + if n ≠ i ∧ f n = f i then 1 else 0 from rfl]
    by_cases z : n ≠ i ∧ f n = f i
    · rw [if_pos z]
      exact ⟨fun h => by omega, fun h => absurd z.2 (h n (by omega) z.1)⟩
    · rw [if_neg z, Nat.add_zero, othN_zero f i n]
      refine ⟨fun h k hk hne e => ?_, fun h k hk => h k (by omega)⟩
      by_cases e2 : k = n
      · subst e2; exact z ⟨hne, e⟩
      · exact h k (by omega) hne e
theorem othN_le (f : Nat → Nat) (i : Nat) : ∀ n, othN f i n ≤ n
  | 0 => Nat.le_refl _
  | n + 1 => by
    have := othN_le f i n
    show othN f i n + (if n ≠ i ∧ f n = f i then 1 else 0) ≤ n + 1
    split <;> omega
theorem soleR_oth (ts : TS n Y R G lv pos) {i key : Nat} (hi : i < 4) (hk : key < 4096) (hne : Tri.get Y.σ.e 3 (R i) key ≠ 0) :
    soleR Y.σ.c Y.σ.e (R i) key = decide (othN (fun k => Tri.get Y.σ.e 3 (R k) key) i 4 = 0) := by
  rw [Bool.eq_iff_iff, decide_eq_true_iff, sole_iff ts hi hk hne, othN_zero]
end
set_option maxRecDepth 100000 in
set_option maxHeartbeats 8000000 in
theorem tsole_walk (v0 : Value) (l0 : List OpR) (W : World) (R0 : ReadsE opE W v0 l0) (F0 : ∀ p ∈ l0, OpOk p) :
    Calls Try.prog 5 #[v0] W fun e w' => e = .returned (.bool true) ∧ Below W.heap.size W w' := by
  have ca := awake_any W
  have HR0 := Lib.hid R0
  have HF0 := Lib.hid F0
  clear R0 F0
  go_enter Try.func5, Try.ntmps5
  go_wp2_with (fail)
  refine ca.mono ?_
  rintro e w1 ⟨rfl, b1⟩
  have cb := begins_any w1
  have s1 := b1.size
  go_wp2_with (fail)
  refine cb.mono ?_
  rintro e w2 ⟨bk, rb, kb, tb, h, g, m, u, Y0, Z0, R0, G0, lv0, pos0, kv0, tv0, rfl, B2, b2, hd, _, _⟩
  have hd0 : W.heap.size ≤ rb ∧ W.heap.size ≤ kb ∧ W.heap.size ≤ tb ∧ W.heap.size ≤ g ∧ W.heap.size ≤ m := by omega
  have b12 : Below W.heap.size W w2 := b1.trans (b2.mono s1)
  have s2 := b12.size
  have cp := plays_come B2 HR0.out HF0.out b12 hd0
  have H2 := Lib.hid b12
  clear b12 ca cb b1 b2
  go_wp2_with (fail)
  refine cp.mono ?_
  rintro e w ⟨rfl, T3, Y, Z, R, G, lv, pos, kv, tv, B3⟩
  have H3 := Lib.hid (H2.out.trans (T3.below s2 hd0))
  have HB := Lib.hid B3
  clear B2 B3 T3 cp
  go_wp2_with (fail)
  go_loopw [5, 6, 7, 8, 9, 10, 11, 12, 13] (fun i _ _ _ _ _ _ _ _ wr => ∃ q : Nat, q ≤ 4 ∧ i = .int .i64 (q : Int) ∧ Below w.heap.size w wr) (fun i _ _ _ _ _ _ _ _ _ => 4 - (intOf i).toNat)
  case atStart => exact ⟨0, by omega, rfl, Below.refl _ _⟩
  case round =>
    obtain ⟨q, hq, rfl, hb⟩ := hrel
    by_cases hlt : q < 4
    · have y1 : (q : Int) < 4 := by omega
      have hKl : (treeL Y.σ.e Y.T (R q)).length = (pairsL Y.σ.e 3 (R q) 0).length := by rw [treeL_pairs, List.length_map]
      have hPn : Hid (∀ x ∈ pairsL Y.σ.e 3 (R q) 0, x.1 < 4096 ∧ Tri.get Y.σ.e 3 (R q) x.1 ≠ 0) := Lib.hid fun x hx => by
        obtain ⟨h1, h2, h3⟩ := pairs_at HB.out.ts hlt x hx
        refine ⟨h1, ?_⟩
        rw [h3]
        rw [pairsL_range] at hx
        obtain ⟨k, hk, h4⟩ := List.mem_filterMap.1 hx
        by_cases hz : Tri.get Y.σ.e 3 (R q) k = 0
        · rw [if_pos hz] at h4; cases h4
        · rw [if_neg hz] at h4
          injection h4 with h4
          subst h4; exact hz
      have hkL : Hid (∀ j (hj : j < (pairsL Y.σ.e 3 (R q) 0).length), (pairsL Y.σ.e 3 (R q) 0)[j].1 < 4096 ∧ Tri.get Y.σ.e 3 (R q) (pairsL Y.σ.e 3 (R q) 0)[j].1 ≠ 0) := Lib.hid fun j hj => hPn.out _ (List.getElem_mem hj)
      obtain ⟨ka, kc, hkv, hkit⟩ := Reads.items (HB.out.bw.kr q hlt)
      have HKT : Hid (∀ j (hj : j < (pairsL Y.σ.e 3 (R q) 0).length), ∃ cb co, ka = some ⟨cb, co, none⟩ ∧ ∀ W, Below w.heap.size w W → W.cell? ⟨cb, co + j, none⟩ = some (.int .i64 (((pairsL Y.σ.e 3 (R q) 0)[j].1 : Nat) : Int))) := Lib.hid fun j hj => by
        obtain ⟨cb, co, e1, e2, e3⟩ := hkit j (by omega)
        have hel : (treeL Y.σ.e Y.T (R q))[j]'(by omega) = ((pairsL Y.σ.e 3 (R q) 0)[j].1, Y.T (pairsL Y.σ.e 3 (R q) 0)[j].2) := by
          have := treeL_pairs Y.σ.e Y.T (R q)
          simp only [this, List.getElem_map]
        rw [hel] at e3
        exact ⟨cb, co, e1, fun W hW => (hW.cell (p := ⟨cb, co + j, none⟩) e2).trans e3⟩
      rw [hKl] at hkv
      have HC : Hid (∀ W, Below w.heap.size w W → W.cell? ⟨bk, 1, none⟩ = some (.pointer (some ⟨h, 0, none⟩)) ∧ W.cell? ⟨bk, 2, none⟩ = some (.slice (some ⟨rb, 0, none⟩) 4 4) ∧ W.cell? ⟨bk, 3, none⟩ = some (.slice (some ⟨kb, 0, none⟩) 4 4) ∧ W.cell? ⟨kb, q, none⟩ = some (.slice ka (pairsL Y.σ.e 3 (R q) 0).length kc)) := Lib.hid fun W hW => by
        have H2 := HB.out.bw.below hW
        exact ⟨H2.c1, H2.c2, H2.c3, by rw [H2.ck hlt, hkv]⟩
      have HCR : Hid (∀ W k, Below w.heap.size w W → k < 4 → W.cell? ⟨rb, k, none⟩ = some (.int .i64 (R k : Int))) := Lib.hid fun W k hW hk => (HB.out.bw.below hW).cr hk
      have hPl : (pairsL Y.σ.e 3 (R q) 0).length ≤ 4096 := pairsL_len _ _ _ _
      have HF : Hid (∀ W (k key : Nat), Below w.heap.size w W → k < 4 → key < 4096 → Calls Try.prog 18 #[.pointer (some ⟨h, 0, none⟩), .int .i64 (R k : Int), .int .i64 (key : Int)] W (Same2 W (.tuple #[.int .i64 ((Tri.get Y.σ.e 3 (R k) key : Nat) : Int), .int .i64 0]))) := Lib.hid fun W k key hW hk4 hk => find_spec (HB.out.hp.below hW) HB.out.ts.ok HB.out.ts.lt (HB.out.ts.root hk4) hk
      have HSO : Hid (∀ W (key : Nat), Below w.heap.size w W → key < 4096 → Tri.get Y.σ.e 3 (R q) key ≠ 0 → Calls Try.prog 17 #[.pointer (some ⟨h, 0, none⟩), .int .i64 (R q : Int), .int .i64 (key : Int)] W (Same2 W (.tuple #[.int .i64 ((Tri.get Y.σ.e 3 (R q) key : Nat) : Int), .bool (decide (othN (fun k => Tri.get Y.σ.e 3 (R k) key) q 4 = 0)), .int .i64 0]))) := Lib.hid fun W key hW hk hne => by
        rw [← soleR_oth HB.out.ts hlt hk hne]
        exact sole_spec (HB.out.hp.below hW) HB.out.ts.ok HB.out.ts.lt (HB.out.ts.root hlt) hk
      have Hb := Lib.hid hb
      clear hkv hkit hb hKl hPn
      generalize pairsL Y.σ.e 3 (R q) 0 = L at *
      go_wp2_with (fail)
      go_loopw [6, 7, 8, 9, 10, 11, 12, 13] (fun t _ _ _ _ _ _ _ wz => ∃ p : Nat, p ≤ L.length ∧ p ≤ 20 ∧ t = .int .i64 (p : Int) ∧ Below w.heap.size w wz) (fun t _ _ _ _ _ _ _ _ => 20 - (intOf t).toNat)
      case atStart => exact ⟨0, Nat.zero_le _, Nat.zero_le _, rfl, Hb.out⟩
      case round =>
        clear Hb
        obtain ⟨p, hp, hp20, rfl, hbz⟩ := hrel
        rename World => wz
        obtain ⟨c1, c2, c3, c4⟩ := HC.out wz hbz
        by_cases hpl : p < L.length ∧ p < 20
        · obtain ⟨hpl, hp2⟩ := hpl
          have z1 : (p : Int) < (L.length : Int) := by omega
          have z2 : (p : Int) < 20 := by omega
          obtain ⟨hk1, hk2⟩ := hkL.out p hpl
          obtain ⟨cb, co, rfl, hkt⟩ := HKT.out p hpl
          generalize L[p].1 = key at *
          have HS : Hid (∀ W k, Below w.heap.size w W → k < 4 → (W.cell? ⟨bk, 1, none⟩ = some (.pointer (some ⟨h, 0, none⟩)) ∧ W.cell? ⟨bk, 2, none⟩ = some (.slice (some ⟨rb, 0, none⟩) 4 4) ∧ W.cell? ⟨rb, k, none⟩ = some (.int .i64 (R k : Int)) ∧ W.cell? ⟨bk, 3, none⟩ = some (.slice (some ⟨kb, 0, none⟩) 4 4) ∧ W.cell? ⟨kb, q, none⟩ = some (.slice (some ⟨cb, co, none⟩) L.length kc) ∧ W.cell? ⟨cb, co + p, none⟩ = some (.int .i64 (key : Int)))) := Lib.hid fun W k hW hk => by
            obtain ⟨c1, c2, c3, c4⟩ := HC.out W hW
            exact ⟨c1, c2, HCR.out W k hW hk, c3, c4, hkt W hW⟩
          have Dz : Below wz.heap.size wz wz.drew := ⟨rfl, rfl, rfl, Nat.le_refl _, fun _ _ => rfl⟩
          have hbd := hbz.trans (Dz.mono hbz.size)
          have cso := HSO.out wz.drew key hbd hk1 hk2
          obtain ⟨fg, hfg⟩ : ∃ fg : Nat → Nat, fg = fun k => Tri.get Y.σ.e 3 (R k) key := ⟨_, rfl⟩
          rw [← hfg] at cso
          rw [show Tri.get Y.σ.e 3 (R q) key = fg q by rw [hfg]] at cso hk2
          have HFD : Hid (∀ W (k : Nat), Below w.heap.size w W → k < 4 → Calls Try.prog 18 #[.pointer (some ⟨h, 0, none⟩), .int .i64 (R k : Int), .int .i64 (key : Int)] W (Same2 W (.tuple #[.int .i64 ((fg k : Nat) : Int), .int .i64 0]))) := Lib.hid fun W k hW hk4 => by
            rw [hfg]; exact HF.out W k key hW hk4 hk1
          have ho4 := othN_le fg q 4
          have Hbd := Lib.hid hbd
          have zq : ((fg q : Nat) : Int) ≠ 0 := by omega
          have zq2 : (((fg q : Nat) : Int) == 0) = false := by rw [beq_eq_false_iff_ne]; exact zq
          clear hfg hkt hbz Dz hbd
          generalize hfq0 : fg q = fq at *
          have hfq := Lib.hid hfq0
          clear hfq0
          go_upto_region 11 with (fail)
          clear c1 c2 c3 c4
          refine wp_region_held_drew (S := fun W => W.cell? ⟨bk, 1, none⟩ = some (.pointer (some ⟨h, 0, none⟩)) ∧ W.cell? ⟨bk, 2, none⟩ = some (.slice (some ⟨rb, 0, none⟩) 4 4) ∧ W.cell? ⟨rb, q, none⟩ = some (.int .i64 (R q : Int)) ∧ W.cell? ⟨bk, 3, none⟩ = some (.slice (some ⟨kb, 0, none⟩) 4 4) ∧ W.cell? ⟨kb, q, none⟩ = some (.slice (some ⟨cb, co, none⟩) L.length kc) ∧ W.cell? ⟨cb, co + p, none⟩ = some (.int .i64 (key : Int))) (by kernel_rfl) (HS.out _ q Hbd.out hlt) (fun hHeld => ?_)
          refine wpAnyH_takeD (i := 0) (some 49) rfl (by kernel_rfl) (by kernel_rfl) (by kernel_rfl) rfl (fun _ _ _ h => h) (Or.inl ⟨by rfl, by rintro w ⟨hs1, hs2, hs3, hs4, hs5, hs6⟩; go_simp; try rfl⟩) (by assumption) ?_
          simp only [Act.put, List.setIfInBounds_toArray, List.set_cons_zero, List.set_cons_succ]
          refine wpAnyH_takeD (i := 1) (some 50) rfl (by kernel_rfl) (by kernel_rfl) (by kernel_rfl) rfl (fun _ _ _ h => h) (Or.inl ⟨by rfl, by rintro w ⟨hs1, hs2, hs3, hs4, hs5, hs6⟩; go_simp; try rfl⟩) (by assumption) ?_
          simp only [Act.put, List.setIfInBounds_toArray, List.set_cons_zero, List.set_cons_succ]
          refine wpAnyH_takeD (i := 2) (some 51) rfl (by kernel_rfl) (by kernel_rfl) (by kernel_rfl) rfl (fun _ _ _ h => h) (Or.inl ⟨by rfl, by rintro w ⟨hs1, hs2, hs3, hs4, hs5, hs6⟩; go_simp; try rfl⟩) (by assumption) ?_
          simp only [Act.put, List.setIfInBounds_toArray, List.set_cons_zero, List.set_cons_succ]
          refine wpAnyH_takeD (i := 3) (some 52) rfl (by kernel_rfl) (by kernel_rfl) (by kernel_rfl) rfl (fun _ _ _ h => h) (Or.inl ⟨by rfl, by rintro w ⟨hs1, hs2, hs3, hs4, hs5, hs6⟩; go_simp; try rfl⟩) (by assumption) ?_
          simp only [Act.put, List.setIfInBounds_toArray, List.set_cons_zero, List.set_cons_succ]
          refine wpAnyH_takeD (i := 4) (some 53) rfl (by kernel_rfl) (by kernel_rfl) (by kernel_rfl) rfl (fun _ _ _ h => h) (Or.inl ⟨by rfl, by rintro w ⟨hs1, hs2, hs3, hs4, hs5, hs6⟩; go_simp; try rfl⟩) (by assumption) ?_
          simp only [Act.put, List.setIfInBounds_toArray, List.set_cons_zero, List.set_cons_succ]
          refine wpAnyH_takeD (i := 5) (some 54) rfl (by kernel_rfl) (by kernel_rfl) (by kernel_rfl) rfl (fun _ _ _ h => h) (Or.inl ⟨by rfl, by rintro w ⟨hs1, hs2, hs3, hs4, hs5, hs6⟩; go_simp; try rfl⟩) (by assumption) ?_
          simp only [Act.put, List.setIfInBounds_toArray, List.set_cons_zero, List.set_cons_succ]
          refine wpAnyH_takeD (i := 6) (some 55) rfl (by kernel_rfl) (by kernel_rfl) (by kernel_rfl) rfl (fun _ _ _ h => h) (Or.inl ⟨by rfl, by rintro w ⟨hs1, hs2, hs3, hs4, hs5, hs6⟩; go_simp; try rfl⟩) (by assumption) ?_
          simp only [Act.put, List.setIfInBounds_toArray, List.set_cons_zero, List.set_cons_succ]
          refine wpAnyH_takeD (i := 7) (some 56) rfl (by kernel_rfl) (by kernel_rfl) (by kernel_rfl) rfl (fun _ _ _ h => h) (Or.inl ⟨by rfl, by rintro w ⟨hs1, hs2, hs3, hs4, hs5, hs6⟩; go_simp; try rfl⟩) (by assumption) ?_
          simp only [Act.put, List.setIfInBounds_toArray, List.set_cons_zero, List.set_cons_succ]
          refine wpAnyH_takeD (i := 8) (some 57) rfl (by kernel_rfl) (by kernel_rfl) (by kernel_rfl) rfl (fun _ _ _ h => h) (Or.inl ⟨by rfl, by rintro w ⟨hs1, hs2, hs3, hs4, hs5, hs6⟩; go_simp; try rfl⟩) (by assumption) ?_
          simp only [Act.put, List.setIfInBounds_toArray, List.set_cons_zero, List.set_cons_succ]
          refine wpAnyH_takeD (i := 9) (some 58) rfl (by kernel_rfl) (by kernel_rfl) (by kernel_rfl) rfl (fun _ _ _ h => h) (Or.inl ⟨by rfl, by rintro w ⟨hs1, hs2, hs3, hs4, hs5, hs6⟩; go_simp; try rfl⟩) (by assumption) ?_
          simp only [Act.put, List.setIfInBounds_toArray, List.set_cons_zero, List.set_cons_succ]
          refine wpAnyH_takeD (i := 10) (some 59) rfl (by kernel_rfl) (by kernel_rfl) (by kernel_rfl) rfl (fun _ _ _ h => h) (Or.inl ⟨by rfl, by rintro w ⟨hs1, hs2, hs3, hs4, hs5, hs6⟩; go_simp; try rfl⟩) (by assumption) ?_
          simp only [Act.put, List.setIfInBounds_toArray, List.set_cons_zero, List.set_cons_succ]
          refine wpAnyH_takeD (i := 11) (some 60) rfl (by kernel_rfl) (by kernel_rfl) (by kernel_rfl) rfl (fun _ _ _ h => h) (Or.inl ⟨by rfl, by rintro w ⟨hs1, hs2, hs3, hs4, hs5, hs6⟩; go_simp; try rfl⟩) (by assumption) ?_
          simp only [Act.put, List.setIfInBounds_toArray, List.set_cons_zero, List.set_cons_succ]
          refine wpAnyH_takeD (i := 12) (some 61) rfl (by kernel_rfl) (by kernel_rfl) (by kernel_rfl) rfl (fun _ _ _ h => h) (Or.inl ⟨by rfl, by rintro w ⟨hs1, hs2, hs3, hs4, hs5, hs6⟩; go_simp; try rfl⟩) (by assumption) ?_
          simp only [Act.put, List.setIfInBounds_toArray, List.set_cons_zero, List.set_cons_succ]
          refine wpAnyH_takeD (i := 13) (some 62) rfl (by kernel_rfl) (by kernel_rfl) (by kernel_rfl) rfl (fun _ _ _ h => h) (Or.inl ⟨by rfl, by rintro w ⟨hs1, hs2, hs3, hs4, hs5, hs6⟩; go_simp; try rfl⟩) (by assumption) ?_
          simp only [Act.put, List.setIfInBounds_toArray, List.set_cons_zero, List.set_cons_succ]
          refine wpAnyH_takeD (i := 14) (some 63) rfl (by kernel_rfl) (by kernel_rfl) (by kernel_rfl) rfl (fun _ _ _ h => h) (Or.inl ⟨by rfl, by rintro w ⟨hs1, hs2, hs3, hs4, hs5, hs6⟩; go_simp; try rfl⟩) (by assumption) ?_
          simp only [Act.put, List.setIfInBounds_toArray, List.set_cons_zero, List.set_cons_succ]
          refine wpAnyH_takeD (i := 15) (some 64) rfl (by kernel_rfl) (by kernel_rfl) (by kernel_rfl) rfl (fun _ _ _ h => h) (Or.inl ⟨by rfl, by rintro w ⟨hs1, hs2, hs3, hs4, hs5, hs6⟩; go_simp; try rfl⟩) (by assumption) ?_
          simp only [Act.put, List.setIfInBounds_toArray, List.set_cons_zero, List.set_cons_succ]
          refine wpAnyH_takeD (i := 16) (some 65) rfl (by kernel_rfl) (by kernel_rfl) (by kernel_rfl) rfl (fun _ _ _ h => h) (Or.inl ⟨by rfl, by rintro w ⟨hs1, hs2, hs3, hs4, hs5, hs6⟩; go_simp; try rfl⟩) (by assumption) ?_
          simp only [Act.put, List.setIfInBounds_toArray, List.set_cons_zero, List.set_cons_succ]
          refine wpAnyH_takeD (i := 17) (some 66) rfl (by kernel_rfl) (by kernel_rfl) (by kernel_rfl) rfl (fun _ _ _ h => h) (Or.inl ⟨by rfl, by rintro w ⟨hs1, hs2, hs3, hs4, hs5, hs6⟩; go_simp; try rfl⟩) (by assumption) ?_
          simp only [Act.put, List.setIfInBounds_toArray, List.set_cons_zero, List.set_cons_succ]
          refine wpAnyH_takeD (i := 18) (some 67) rfl (by kernel_rfl) (by kernel_rfl) (by kernel_rfl) rfl (fun _ _ _ h => h) (Or.inl ⟨by rfl, by rintro w ⟨hs1, hs2, hs3, hs4, hs5, hs6⟩; go_simp; try rfl⟩) (by assumption) ?_
          simp only [Act.put, List.setIfInBounds_toArray, List.set_cons_zero, List.set_cons_succ]
          refine wpAnyH_takeD (i := 19) (some 68) rfl (by kernel_rfl) (by kernel_rfl) (by kernel_rfl) rfl (fun _ _ _ h => h) (Or.inl ⟨by rfl, by rintro w ⟨hs1, hs2, hs3, hs4, hs5, hs6⟩; go_simp; try rfl⟩) (by assumption) ?_
          simp only [Act.put, List.setIfInBounds_toArray, List.set_cons_zero, List.set_cons_succ]
          refine wpAnyH_takeD (i := 20) (some 69) rfl (by kernel_rfl) (by kernel_rfl) (by kernel_rfl) rfl (fun _ _ _ h => h) (Or.inl ⟨by rfl, by rintro w ⟨hs1, hs2, hs3, hs4, hs5, hs6⟩; go_simp; try rfl⟩) (by assumption) ?_
          simp only [Act.put, List.setIfInBounds_toArray, List.set_cons_zero, List.set_cons_succ]
          refine wpAnyH_ready (rs := [21]) (by kernel_rfl) (by simp) ?_
          refine AllReadyH.cons rfl (fun K hK => ?_) AllReadyH.nil
          go_simp
          refine cso.mono ?_
          rintro x w6 ⟨rfl, q6⟩
          refine hK.out _ _ (HS.out _ q (Hbd.out.trans (q6.mono Hbd.out.size)) hlt) (fun hHeld => ?_)
          clear hK
          try simp only [Act.put, List.setIfInBounds_toArray, List.set_cons_zero, List.set_cons_succ]
          refine wpAnyH_takeD (i := 22) (v := Value.tuple #[.int .i64 (fq : Int), .bool (decide (othN fg q 4 = 0)), .int .i64 0]) (some 48) rfl (by kernel_rfl) (by kernel_rfl) (by kernel_rfl) rfl (fun _ _ _ h => h) (Or.inl ⟨by rfl, by rintro w ⟨hs1, hs2, hs3, hs4, hs5, hs6⟩; go_simp; try rfl⟩) (by assumption) ?_
          simp only [Act.put, List.setIfInBounds_toArray, List.set_cons_zero, List.set_cons_succ]
          refine wpAnyH_takeD (i := 23) (v := Value.int .i64 (fq : Int)) (some 71) rfl (by kernel_rfl) (by kernel_rfl) (by kernel_rfl) rfl (fun _ _ _ h => h) (Or.inl ⟨by rfl, by rintro w ⟨hs1, hs2, hs3, hs4, hs5, hs6⟩; go_simp; try rfl⟩) (by assumption) ?_
          simp only [Act.put, List.setIfInBounds_toArray, List.set_cons_zero, List.set_cons_succ]
          refine wpAnyH_takeD (i := 24) (v := Value.bool (decide (othN fg q 4 = 0))) (some 72) rfl (by kernel_rfl) (by kernel_rfl) (by kernel_rfl) rfl (fun _ _ _ h => h) (Or.inl ⟨by rfl, by rintro w ⟨hs1, hs2, hs3, hs4, hs5, hs6⟩; go_simp; try rfl⟩) (by assumption) ?_
          simp only [Act.put, List.setIfInBounds_toArray, List.set_cons_zero, List.set_cons_succ]
          refine wpAnyH_takeD (i := 25) (v := Value.int .i64 0) (some 73) rfl (by kernel_rfl) (by kernel_rfl) (by kernel_rfl) rfl (fun _ _ _ h => h) (Or.inl ⟨by rfl, by rintro w ⟨hs1, hs2, hs3, hs4, hs5, hs6⟩; go_simp; try rfl⟩) (by assumption) ?_
          simp only [Act.put, List.setIfInBounds_toArray, List.set_cons_zero, List.set_cons_succ]
          refine wpAnyH_takeD (i := 26) (v := Value.int .i64 (fq : Int)) (some 7) rfl (by kernel_rfl) (by kernel_rfl) (by kernel_rfl) rfl (fun _ _ _ h => h) (Or.inl ⟨by rfl, by rintro w ⟨hs1, hs2, hs3, hs4, hs5, hs6⟩; go_simp; try rfl⟩) (by assumption) ?_
          simp only [Act.put, List.setIfInBounds_toArray, List.set_cons_zero, List.set_cons_succ]
          refine wpAnyH_takeD (i := 27) (v := Value.bool (decide (othN fg q 4 = 0))) (some 8) rfl (by kernel_rfl) (by kernel_rfl) (by kernel_rfl) rfl (fun _ _ _ h => h) (Or.inl ⟨by rfl, by rintro w ⟨hs1, hs2, hs3, hs4, hs5, hs6⟩; go_simp; try rfl⟩) (by assumption) ?_
          simp only [Act.put, List.setIfInBounds_toArray, List.set_cons_zero, List.set_cons_succ]
          refine wpAnyH_takeD (i := 28) (v := Value.int .i64 0) (some 9) rfl (by kernel_rfl) (by kernel_rfl) (by kernel_rfl) rfl (fun _ _ _ h => h) (Or.inl ⟨by rfl, by rintro w ⟨hs1, hs2, hs3, hs4, hs5, hs6⟩; go_simp; try rfl⟩) (by assumption) ?_
          simp only [Act.put, List.setIfInBounds_toArray, List.set_cons_zero, List.set_cons_succ]
          refine wpAnyH_done (by kernel_rfl) ?_ _
          have H6 := Lib.hid (Hbd.out.trans (q6.mono Hbd.out.size))
          clear q6 cso Hbd
          go_wp2_with (fail)
          go_loopw [10, 11, 12, 13] (fun o t _ _ wy => ∃ k : Nat, k ≤ 4 ∧ t = .int .i64 (k : Int) ∧ o = .int .i64 ((othN fg q k : Nat) : Int) ∧ Below w.heap.size w wy) (fun _ t _ _ _ => 4 - (intOf t).toNat)
          case atStart => exact ⟨0, Nat.zero_le _, rfl, rfl, H6.out⟩
          case round =>
            obtain ⟨k, hk4, rfl, rfl, hby⟩ := hrel
            rename World => wy
            have hol := othN_le fg q k
            by_cases hkl : k < 4
            · have x1 : (k : Int) < 4 := by omega
              have hos : Hid (othN fg q (k + 1) = othN fg q k + if k ≠ q ∧ fg k = fg q then 1 else 0) := Lib.hid rfl
              obtain ⟨c1, c2, c3, c4⟩ := HC.out wy hby
              have Dy : Below wy.heap.size wy wy.drew := ⟨rfl, rfl, rfl, Nat.le_refl _, fun _ _ => rfl⟩
              have hyd := hby.trans (Dy.mono hby.size)
              have cfd := HFD.out wy.drew k hyd hkl
              have Hyd := Lib.hid hyd
              have Hsu : Hid (∀ o' : Nat, o' = othN fg q (k + 1) → Value.int .i64 (o' : Int) = Value.int .i64 ((othN fg q (k + 1) : Nat) : Int)) := Lib.hid fun o' e => by rw [e]
              generalize othN fg q k = o at *
              clear hby Dy hyd
              go_upto_region 18 with (fail)
              clear c1 c2 c3 c4
              refine wp_region_held_drew (S := fun W => W.cell? ⟨bk, 1, none⟩ = some (.pointer (some ⟨h, 0, none⟩)) ∧ W.cell? ⟨bk, 2, none⟩ = some (.slice (some ⟨rb, 0, none⟩) 4 4) ∧ W.cell? ⟨rb, k, none⟩ = some (.int .i64 (R k : Int)) ∧ W.cell? ⟨bk, 3, none⟩ = some (.slice (some ⟨kb, 0, none⟩) 4 4) ∧ W.cell? ⟨kb, q, none⟩ = some (.slice (some ⟨cb, co, none⟩) L.length kc) ∧ W.cell? ⟨cb, co + p, none⟩ = some (.int .i64 (key : Int))) (by kernel_rfl) (HS.out _ k Hyd.out hkl) (fun hHeld => ?_)
              refine wpAnyH_takeD (i := 0) (some 85) rfl (by kernel_rfl) (by kernel_rfl) (by kernel_rfl) rfl (fun _ _ _ h => h) (Or.inl ⟨by rfl, by rintro w ⟨hs1, hs2, hs3, hs4, hs5, hs6⟩; go_simp; try rfl⟩) (by assumption) ?_
              simp only [Act.put, List.setIfInBounds_toArray, List.set_cons_zero, List.set_cons_succ]
              refine wpAnyH_takeD (i := 1) (some 86) rfl (by kernel_rfl) (by kernel_rfl) (by kernel_rfl) rfl (fun _ _ _ h => h) (Or.inl ⟨by rfl, by rintro w ⟨hs1, hs2, hs3, hs4, hs5, hs6⟩; go_simp; try rfl⟩) (by assumption) ?_
              simp only [Act.put, List.setIfInBounds_toArray, List.set_cons_zero, List.set_cons_succ]
              refine wpAnyH_takeD (i := 2) (some 87) rfl (by kernel_rfl) (by kernel_rfl) (by kernel_rfl) rfl (fun _ _ _ h => h) (Or.inl ⟨by rfl, by rintro w ⟨hs1, hs2, hs3, hs4, hs5, hs6⟩; go_simp; try rfl⟩) (by assumption) ?_
              simp only [Act.put, List.setIfInBounds_toArray, List.set_cons_zero, List.set_cons_succ]
              refine wpAnyH_takeD (i := 3) (some 88) rfl (by kernel_rfl) (by kernel_rfl) (by kernel_rfl) rfl (fun _ _ _ h => h) (Or.inl ⟨by rfl, by rintro w ⟨hs1, hs2, hs3, hs4, hs5, hs6⟩; go_simp; try rfl⟩) (by assumption) ?_
              simp only [Act.put, List.setIfInBounds_toArray, List.set_cons_zero, List.set_cons_succ]
              refine wpAnyH_takeD (i := 4) (some 89) rfl (by kernel_rfl) (by kernel_rfl) (by kernel_rfl) rfl (fun _ _ _ h => h) (Or.inl ⟨by rfl, by rintro w ⟨hs1, hs2, hs3, hs4, hs5, hs6⟩; go_simp; try rfl⟩) (by assumption) ?_
              simp only [Act.put, List.setIfInBounds_toArray, List.set_cons_zero, List.set_cons_succ]
              refine wpAnyH_takeD (i := 5) (some 90) rfl (by kernel_rfl) (by kernel_rfl) (by kernel_rfl) rfl (fun _ _ _ h => h) (Or.inl ⟨by rfl, by rintro w ⟨hs1, hs2, hs3, hs4, hs5, hs6⟩; go_simp; try rfl⟩) (by assumption) ?_
              simp only [Act.put, List.setIfInBounds_toArray, List.set_cons_zero, List.set_cons_succ]
              refine wpAnyH_takeD (i := 6) (some 91) rfl (by kernel_rfl) (by kernel_rfl) (by kernel_rfl) rfl (fun _ _ _ h => h) (Or.inl ⟨by rfl, by rintro w ⟨hs1, hs2, hs3, hs4, hs5, hs6⟩; go_simp; try rfl⟩) (by assumption) ?_
              simp only [Act.put, List.setIfInBounds_toArray, List.set_cons_zero, List.set_cons_succ]
              refine wpAnyH_takeD (i := 7) (some 92) rfl (by kernel_rfl) (by kernel_rfl) (by kernel_rfl) rfl (fun _ _ _ h => h) (Or.inl ⟨by rfl, by rintro w ⟨hs1, hs2, hs3, hs4, hs5, hs6⟩; go_simp; try rfl⟩) (by assumption) ?_
              simp only [Act.put, List.setIfInBounds_toArray, List.set_cons_zero, List.set_cons_succ]
              refine wpAnyH_takeD (i := 8) (some 93) rfl (by kernel_rfl) (by kernel_rfl) (by kernel_rfl) rfl (fun _ _ _ h => h) (Or.inl ⟨by rfl, by rintro w ⟨hs1, hs2, hs3, hs4, hs5, hs6⟩; go_simp; try rfl⟩) (by assumption) ?_
              simp only [Act.put, List.setIfInBounds_toArray, List.set_cons_zero, List.set_cons_succ]
              refine wpAnyH_takeD (i := 9) (some 94) rfl (by kernel_rfl) (by kernel_rfl) (by kernel_rfl) rfl (fun _ _ _ h => h) (Or.inl ⟨by rfl, by rintro w ⟨hs1, hs2, hs3, hs4, hs5, hs6⟩; go_simp; try rfl⟩) (by assumption) ?_
              simp only [Act.put, List.setIfInBounds_toArray, List.set_cons_zero, List.set_cons_succ]
              refine wpAnyH_takeD (i := 10) (some 95) rfl (by kernel_rfl) (by kernel_rfl) (by kernel_rfl) rfl (fun _ _ _ h => h) (Or.inl ⟨by rfl, by rintro w ⟨hs1, hs2, hs3, hs4, hs5, hs6⟩; go_simp; try rfl⟩) (by assumption) ?_
              simp only [Act.put, List.setIfInBounds_toArray, List.set_cons_zero, List.set_cons_succ]
              refine wpAnyH_takeD (i := 11) (some 96) rfl (by kernel_rfl) (by kernel_rfl) (by kernel_rfl) rfl (fun _ _ _ h => h) (Or.inl ⟨by rfl, by rintro w ⟨hs1, hs2, hs3, hs4, hs5, hs6⟩; go_simp; try rfl⟩) (by assumption) ?_
              simp only [Act.put, List.setIfInBounds_toArray, List.set_cons_zero, List.set_cons_succ]
              refine wpAnyH_takeD (i := 12) (some 97) rfl (by kernel_rfl) (by kernel_rfl) (by kernel_rfl) rfl (fun _ _ _ h => h) (Or.inl ⟨by rfl, by rintro w ⟨hs1, hs2, hs3, hs4, hs5, hs6⟩; go_simp; try rfl⟩) (by assumption) ?_
              simp only [Act.put, List.setIfInBounds_toArray, List.set_cons_zero, List.set_cons_succ]
              refine wpAnyH_takeD (i := 13) (some 98) rfl (by kernel_rfl) (by kernel_rfl) (by kernel_rfl) rfl (fun _ _ _ h => h) (Or.inl ⟨by rfl, by rintro w ⟨hs1, hs2, hs3, hs4, hs5, hs6⟩; go_simp; try rfl⟩) (by assumption) ?_
              simp only [Act.put, List.setIfInBounds_toArray, List.set_cons_zero, List.set_cons_succ]
              refine wpAnyH_takeD (i := 14) (some 99) rfl (by kernel_rfl) (by kernel_rfl) (by kernel_rfl) rfl (fun _ _ _ h => h) (Or.inl ⟨by rfl, by rintro w ⟨hs1, hs2, hs3, hs4, hs5, hs6⟩; go_simp; try rfl⟩) (by assumption) ?_
              simp only [Act.put, List.setIfInBounds_toArray, List.set_cons_zero, List.set_cons_succ]
              refine wpAnyH_takeD (i := 15) (some 100) rfl (by kernel_rfl) (by kernel_rfl) (by kernel_rfl) rfl (fun _ _ _ h => h) (Or.inl ⟨by rfl, by rintro w ⟨hs1, hs2, hs3, hs4, hs5, hs6⟩; go_simp; try rfl⟩) (by assumption) ?_
              simp only [Act.put, List.setIfInBounds_toArray, List.set_cons_zero, List.set_cons_succ]
              refine wpAnyH_takeD (i := 16) (some 101) rfl (by kernel_rfl) (by kernel_rfl) (by kernel_rfl) rfl (fun _ _ _ h => h) (Or.inl ⟨by rfl, by rintro w ⟨hs1, hs2, hs3, hs4, hs5, hs6⟩; go_simp; try rfl⟩) (by assumption) ?_
              simp only [Act.put, List.setIfInBounds_toArray, List.set_cons_zero, List.set_cons_succ]
              refine wpAnyH_takeD (i := 17) (some 102) rfl (by kernel_rfl) (by kernel_rfl) (by kernel_rfl) rfl (fun _ _ _ h => h) (Or.inl ⟨by rfl, by rintro w ⟨hs1, hs2, hs3, hs4, hs5, hs6⟩; go_simp; try rfl⟩) (by assumption) ?_
              simp only [Act.put, List.setIfInBounds_toArray, List.set_cons_zero, List.set_cons_succ]
              refine wpAnyH_takeD (i := 18) (some 103) rfl (by kernel_rfl) (by kernel_rfl) (by kernel_rfl) rfl (fun _ _ _ h => h) (Or.inl ⟨by rfl, by rintro w ⟨hs1, hs2, hs3, hs4, hs5, hs6⟩; go_simp; try rfl⟩) (by assumption) ?_
              simp only [Act.put, List.setIfInBounds_toArray, List.set_cons_zero, List.set_cons_succ]
              refine wpAnyH_takeD (i := 19) (some 104) rfl (by kernel_rfl) (by kernel_rfl) (by kernel_rfl) rfl (fun _ _ _ h => h) (Or.inl ⟨by rfl, by rintro w ⟨hs1, hs2, hs3, hs4, hs5, hs6⟩; go_simp; try rfl⟩) (by assumption) ?_
              simp only [Act.put, List.setIfInBounds_toArray, List.set_cons_zero, List.set_cons_succ]
              refine wpAnyH_takeD (i := 20) (some 105) rfl (by kernel_rfl) (by kernel_rfl) (by kernel_rfl) rfl (fun _ _ _ h => h) (Or.inl ⟨by rfl, by rintro w ⟨hs1, hs2, hs3, hs4, hs5, hs6⟩; go_simp; try rfl⟩) (by assumption) ?_
              simp only [Act.put, List.setIfInBounds_toArray, List.set_cons_zero, List.set_cons_succ]
              refine wpAnyH_ready (rs := [21]) (by kernel_rfl) (by simp) ?_
              refine AllReadyH.cons rfl (fun K hK => ?_) AllReadyH.nil
              go_simp
              refine cfd.mono ?_
              rintro x w7 ⟨rfl, q7⟩
              refine hK.out _ _ (HS.out _ k (Hyd.out.trans (q7.mono Hyd.out.size)) hkl) (fun hHeld => ?_)
              clear hK
              try simp only [Act.put, List.setIfInBounds_toArray, List.set_cons_zero, List.set_cons_succ]
              refine wpAnyH_takeD (i := 22) (v := Value.tuple #[.int .i64 ((fg k : Nat) : Int), .int .i64 0]) (some 84) rfl (by kernel_rfl) (by kernel_rfl) (by kernel_rfl) rfl (fun _ _ _ h => h) (Or.inl ⟨by rfl, by rintro w ⟨hs1, hs2, hs3, hs4, hs5, hs6⟩; go_simp; try rfl⟩) (by assumption) ?_
              simp only [Act.put, List.setIfInBounds_toArray, List.set_cons_zero, List.set_cons_succ]
              refine wpAnyH_takeD (i := 23) (v := Value.int .i64 ((fg k : Nat) : Int)) (some 107) rfl (by kernel_rfl) (by kernel_rfl) (by kernel_rfl) rfl (fun _ _ _ h => h) (Or.inl ⟨by rfl, by rintro w ⟨hs1, hs2, hs3, hs4, hs5, hs6⟩; go_simp; try rfl⟩) (by assumption) ?_
              simp only [Act.put, List.setIfInBounds_toArray, List.set_cons_zero, List.set_cons_succ]
              refine wpAnyH_takeD (i := 24) (v := Value.int .i64 0) (some 108) rfl (by kernel_rfl) (by kernel_rfl) (by kernel_rfl) rfl (fun _ _ _ h => h) (Or.inl ⟨by rfl, by rintro w ⟨hs1, hs2, hs3, hs4, hs5, hs6⟩; go_simp; try rfl⟩) (by assumption) ?_
              simp only [Act.put, List.setIfInBounds_toArray, List.set_cons_zero, List.set_cons_succ]
              refine wpAnyH_takeD (i := 25) (v := Value.int .i64 ((fg k : Nat) : Int)) (some 12) rfl (by kernel_rfl) (by kernel_rfl) (by kernel_rfl) rfl (fun _ _ _ h => h) (Or.inl ⟨by rfl, by rintro w ⟨hs1, hs2, hs3, hs4, hs5, hs6⟩; go_simp; try rfl⟩) (by assumption) ?_
              simp only [Act.put, List.setIfInBounds_toArray, List.set_cons_zero, List.set_cons_succ]
              refine wpAnyH_takeD (i := 26) (v := Value.int .i64 0) (some 13) rfl (by kernel_rfl) (by kernel_rfl) (by kernel_rfl) rfl (fun _ _ _ h => h) (Or.inl ⟨by rfl, by rintro w ⟨hs1, hs2, hs3, hs4, hs5, hs6⟩; go_simp; try rfl⟩) (by assumption) ?_
              simp only [Act.put, List.setIfInBounds_toArray, List.set_cons_zero, List.set_cons_succ]
              refine wpAnyH_done (by kernel_rfl) ?_ _
              have H7 := Lib.hid (Hyd.out.trans (q7.mono Hyd.out.size))
              clear q7 cfd Hyd
              by_cases hkq : k = q
              · subst hkq
                have tn : ((k : Int) != (k : Int)) = false := by simp
                have hos2 : Hid (othN fg k (k + 1) = o) := Lib.hid (by rw [hos.out, if_neg (fun z => z.1 rfl)]; rfl)
                go_wp2_with (fail)
                go_roundw
                case rel => exact ⟨k + 1, by omega, by go_num, by rw [hos2.out], H7.out⟩
                case measure => simp [intOf]; omega
              · have tn : ((k : Int) != (q : Int)) = true := by rw [bne_iff_ne]; omega
                by_cases hfe : fg k = fq
                · have te : (((fg k : Nat) : Int) == ((fq : Nat) : Int)) = true := by rw [hfe]; simp
                  have hos2 : Hid (othN fg q (k + 1) = o + 1) := Lib.hid (by rw [hos.out, if_pos ⟨hkq, hfe.trans hfq.out.symm⟩])
                  generalize fg k = fk at *
                  go_wp2_with (fail)
                  go_roundw
                  case rel => exact ⟨k + 1, by omega, by go_num, by rw [hos2.out]; go_num, H7.out⟩
                  case measure => simp [intOf]; omega
                · have te : (((fg k : Nat) : Int) == ((fq : Nat) : Int)) = false := by rw [beq_eq_false_iff_ne]; omega
                  have hos2 : Hid (othN fg q (k + 1) = o) := Lib.hid (by rw [hos.out, if_neg (fun z => hfe (z.2.trans hfq.out))]; rfl)
                  generalize fg k = fk at *
                  go_wp2_with (fail)
                  go_roundw
                  case rel => exact ⟨k + 1, by omega, by go_num, by rw [hos2.out], H7.out⟩
                  case measure => simp [intOf]; omega
            · obtain rfl : k = 4 := by omega
              have H7 := Lib.hid hby
              clear hby
              generalize othN fg q 4 = o at *
              by_cases ho : o = 0
              · subst ho
                have tb : (decide ((0 : Nat) = 0) != (((0 : Nat) : Int) == 0)) = false := by decide
                go_wp2_with (fail)
                go_roundw
                case rel => exact ⟨p + 1, by omega, by omega, by go_num, H7.out⟩
                case measure => simp [intOf]; omega
              · have td : decide (o = 0) = false := decide_eq_false ho
                have te : ((o : Int) == 0) = false := by rw [beq_eq_false_iff_ne]; omega
                go_wp2_with (fail)
                go_roundw
                case rel => exact ⟨p + 1, by omega, by omega, by go_num, H7.out⟩
                case measure => simp [intOf]; omega
        · have Hz := Lib.hid hbz
          clear hbz
          by_cases hpl1 : p < L.length
          · obtain rfl : p = 20 := by omega
            have z1 : ((20 : Nat) : Int) < (L.length : Int) := by omega
            go_wp2_with (fail)
            go_roundw
            case rel => exact ⟨q + 1, by omega, by go_num, Hz.out⟩
            case measure => simp [intOf]; omega
          · obtain rfl : p = L.length := by omega
            have z1 : ¬ ((L.length : Int) < (L.length : Int)) := by omega
            go_wp2_with (fail)
            go_roundw
            case rel => exact ⟨q + 1, by omega, by go_num, Hz.out⟩
            case measure => simp [intOf]; omega
    · obtain rfl : q = 4 := by omega
      have cr := right_any (HB.out.below hb)
      have Hb := Lib.hid hb
      clear hb
      go_wp2_with (fail)
      refine cr.mono ?_
      rintro e wf ⟨rfl, qf⟩
      have hfin := Lib.hid (H3.out.trans ((Hb.out.trans (qf.mono Hb.out.size)).mono H3.out.size))
      clear qf cr
      go_wp2_with (fail)
      go_ret
      exact ⟨rfl, hfin.out⟩
end Go.Proofs.Ytlbjfigdocbffaa
