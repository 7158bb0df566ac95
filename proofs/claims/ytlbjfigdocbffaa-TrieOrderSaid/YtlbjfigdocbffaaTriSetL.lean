/- trie: set, level by level. -/
import Derived.Test.YtlbjfigdocbffaaTriRoom
namespace Go.Proofs.Ytlbjfigdocbffaa
open Go.RowKit
set_option linter.unusedVariables false
set_option linter.unusedSimpArgs false

section
variable {w w' w1 : World} {h g m n : Nat} {u : Value} {C : Nat → Nat} {Z : Int → Bool} {X : Nat → ByteArray} {v : Value} {x : Ending}
theorem updE_id {e : Nat → Nat} {i kid : Nat} (h : e i = kid) : Tri.updE e i kid = e := by
  funext j
  by_cases ej : j = i
  · subst ej; rw [Tri.updE_same, h]
  · rw [Tri.updE_other ej]
/-- An entry of a node is turned, or is it already. -/
theorem enter_spec (h g m n : Nat) (u : Value) (C : Nat → Nat) (Z : Int → Bool) (X : Nat → ByteArray) (b : Nat) (h3 : 3 ≤ b) (hb : b < n) (hc : 0 < C b) (e : Nat → Nat) (he : ∀ j, j < 16 → e j ≤ 255) (hX : X b = ntext e) (i kid : Nat) (hi : i < 16) (hk2 : kid ≤ 255) :
    ∃ Z', ∀ w, Hp w h g m n u C Z X → Calls Try.prog 56 #[.pointer (some ⟨h, 0, none⟩), .int .i64 (b : Int), .agg (ndL e).toArray, .int .i64 (i : Int), .int .i64 (kid : Int)] w
      (HpG w h g m n u C Z' (updX X b (ntext (Tri.updE e i kid))) (.tuple #[.int .i64 (b : Int), .int .i64 0])) := by
  by_cases hk : e i = kid
  · refine ⟨Z, fun w hw => (enter_same w h i b e kid hi hk hk2).mono fun x w' k => ?_⟩
    have hX2 : updX X b (ntext (Tri.updE e i kid)) = X := by
      rw [updE_id hk]
      funext j
      unfold updX
      by_cases ej : j = b
      · subst ej; rw [if_pos rfl, hX]
      · rw [if_neg ej]
    rw [hX2]
    exact HpG.same hw k
  · exact ⟨_, fun w hw => enter_new hw b h3 hb hc e he i kid hi hk hk2⟩
end
section
variable {h g m n : Nat} {u : Value} {Y : Tri.TW ByteArray} {ext0 : Nat → Nat} {G H : Nat → Prop} {lv pos : Nat → Nat} {b P key block B : Nat}
/-- The reference to a block that keys lead to is given back; another one stands there. -/
theorem leaf_spec (h g m : Nat) (u : Value) (Z : Int → Bool) (v : Nat) (ok : Tri.Ok ntext Y (Tri.plus (Tri.plus ext0 (Tri.oneZ v)) (Tri.oneZ b)) G H lv pos) (hv : v ≠ 0 → lv v = 0 ∧ pos v = P) (hlp : b ≠ 0 → lv b = 0 ∧ pos b = P) (hlt : ∀ x, 0 < Y.σ.c x → x < n) :
    ∃ Y' G', Tri.Chg ntext Y Y' ext0 G H lv pos G' lv pos 0 P v (fun _ => v) ∧ Y'.T = Y.T ∧ Y'.σ.e = Y.σ.e ∧ (∀ x, 0 < Y'.σ.c x → 0 < Y.σ.c x) ∧ (b = 0 → Y' = Y) ∧
      ∀ w, Hp w h g m n u (cOf Y.σ.c) Z Y.T → Calls Try.prog 49 #[.pointer (some ⟨h, 0, none⟩), .int .i64 (b : Int)] w (HpG w h g m n u (cOf Y'.σ.c) Z Y'.T (.int .i64 0)) := by
  by_cases hb : b = 0
  · subst hb
    have ok' : Tri.Ok ntext Y (Tri.plus ext0 (Tri.oneZ v)) G H lv pos := ok.congrE fun x => by unfold Tri.plus; rw [Tri.oneZ_zero]; rfl
    exact ⟨Y, G, Tri.Chg.leaf0 ok' hv, rfl, rfl, fun _ z => z, fun _ => rfl, fun w hw => (release_none w h).mono fun x w' k => ⟨k.1, by rw [← k.2]; exact HTo.refl _ _ _, by rw [← k.2]; exact hw⟩⟩
  · rw [Tri.oneZ_pos hb] at ok
    obtain ⟨hl, hp⟩ := hlp hb
    have hb1 : 1 ≤ Tri.plus (Tri.plus ext0 (Tri.oneZ v)) (Tri.one b) b := by
      show 1 ≤ _ + Tri.one b b
      rw [Tri.one_same]; omega
    have hG := ok.i.ex b (by omega)
    have h3 := (ok.i.rng b (.inl hG)).1
    have hc0 := (ok.i.all b).2 (.inl hG)
    have hbn := hlt b hc0
    have hcall : ∀ w, Hp w h g m n u (cOf Y.σ.c) Z Y.T → Calls Try.prog 49 #[.pointer (some ⟨h, 0, none⟩), .int .i64 (b : Int)] w (HpG w h g m n u (cOf (upd Y.σ.c b (Y.σ.c b - 1))) Z Y.T (.int .i64 0)) := fun w hw => by
      have := release_one hw b h3 hbn (by rw [cOf_hi h3]; exact hc0)
      rw [cOf_hi h3, cOf_upd _ h3] at this
      exact this
    have hpos : ∀ x, 0 < upd Y.σ.c b (Y.σ.c b - 1) x → 0 < Y.σ.c x := fun x hx => by
      unfold upd at hx
      by_cases e : x = b
      · subst e; exact hc0
      · rw [if_neg e] at hx; exact hx
    by_cases hc : Y.σ.c b = 1
    · refine ⟨⟨⟨upd Y.σ.c b (Y.σ.c b - 1), Y.σ.e⟩, Y.T⟩, _, Tri.Chg.leaf2 ok hv hc hl rfl rfl (by show upd _ _ _ _ = 0; unfold upd; rw [if_pos rfl]; omega) (fun x hx => by show upd _ _ _ _ = _; unfold upd; rw [if_neg hx]), rfl, rfl, hpos, fun z => absurd z hb, hcall⟩
    · refine ⟨⟨⟨upd Y.σ.c b (Y.σ.c b - 1), Y.σ.e⟩, Y.T⟩, _, Tri.Chg.leaf1 ok hv (by omega) rfl rfl (fun x => ?_), rfl, rfl, hpos, fun z => absurd z hb, hcall⟩
      show upd Y.σ.c b (Y.σ.c b - 1) x + _ = _
      unfold upd
      by_cases e : x = b
      · subst e; rw [if_pos rfl, Tri.one_same]; omega
      · rw [if_neg e, Tri.one_other e]; rfl
/-- The cells of what is left of a path. -/
def PathAt (w : World) (g m p o l key : Nat) : Prop := p < w.heap.size ∧ p ≠ g ∧ p ≠ m ∧ ∀ j, j < l → w.cell? ⟨p, o + j, none⟩ = some (.int .i64 ((key / 16 ^ (l - 1 - j) % 16 : Nat) : Int))
theorem PathAt.to {w w' : World} {p o l key : Nat} (hp : PathAt w g m p o l key) (t : HTo w g m w') : PathAt w' g m p o l key :=
  ⟨Nat.lt_of_lt_of_le hp.1 t.size, hp.2.1, hp.2.2.1, fun j hj => by rw [← hp.2.2.2 j hj]; exact cell_of_heap (t.oth p hp.1 hp.2.1 hp.2.2.1) _⟩
theorem PathAt.next {w : World} {p o l key : Nat} (hp : PathAt w g m p o (l + 1) key) : PathAt w g m p (if l = 0 then o else o + 1) l key :=
  ⟨hp.1, hp.2.1, hp.2.2.1, fun j hj => by
    have := hp.2.2.2 (j + 1) (by omega)
    rw [if_neg (by omega), show o + 1 + j = o + (j + 1) by omega, this, show l + 1 - 1 - (j + 1) = l - 1 - j by omega]⟩
theorem PathAt.head {w : World} {p o l key : Nat} (hp : PathAt w g m p o (l + 1) key) : w.cell? ⟨p, o, none⟩ = some (.int .i64 ((key / 16 ^ l % 16 : Nat) : Int)) := by
  have := hp.2.2.2 0 (by omega)
  rw [Nat.add_zero, show l + 1 - 1 - 0 = l by omega] at this
  exact this
theorem one_pos {b x : Nat} (h : 0 < Tri.one b x) : x = b := by
  unfold Tri.one at h
  by_cases e : x = b
  · exact e
  · rw [if_neg e] at h; omega
theorem rest_le {n : Nat → Nat} {i : Nat} {ext0 : Nat → Nat} {B : Nat} (hB : ∀ x, ext0 x ≤ B) (hk : ∀ x, Tri.kids n x ≤ 1) : ∀ x, Tri.rest ext0 n i x ≤ B + 1 := fun x => by
  unfold Tri.rest
  have := hB x
  have := hk x
  omega
theorem kids_one {l : Nat} {n : Nat → Nat} (hk : Tri.Kids G lv pos n l P) (x : Nat) : Tri.kids n x ≤ 1 := by
  unfold Tri.kids
  by_cases h0 : x = 0
  · rw [if_pos h0]; omega
  · rw [if_neg h0]
    refine Tri.sumTo_one 16 fun i j hi hj e1 e2 => ?_
    have a := (hk i hi (by rw [e1]; exact h0)).2.2
    have b := (hk j hj (by rw [e2]; exact h0)).2.2
    rw [e1] at a; rw [e2] at b
    omega
/-- What set leaves. -/
def GrowK (K l b t : Nat) (c c' : Nat → Nat) : Prop := ∃ a, a ≤ l ∧ Seg (K + a) (cOf c') ∧ (b = 0 ∨ 2 ≤ c b → a = l ∧ (0 < l → t = K))
theorem set_lv (h g m : Nat) (u : Value) (hn : n ≤ 200) (hbk : block ≠ 0) : ∀ (l : Nat) {Y : Tri.TW ByteArray} {ext0 : Nat → Nat} {G H : Nat → Prop} {b P B : Nat} (Z : Int → Bool),
    Tri.Ok ntext Y (Tri.plus (Tri.plus ext0 (Tri.oneZ block)) (Tri.oneZ b)) G H lv pos → (b ≠ 0 → lv b = l ∧ pos b = P) → (lv block = 0 ∧ pos block = P * 16 ^ l + key % 16 ^ l) → (∀ x, 0 < Y.σ.c x → x < n) → (∀ x, ext0 x ≤ B) → B + l ≤ 20 → usedTo (cOf Y.σ.c) n + l ≤ n →
    ∃ t Y' Z' G' lv' pos', t ≠ 0 ∧ Tri.Chg ntext Y Y' ext0 G H lv pos G' lv' pos' l P t (Tri.setF (Tri.get Y.σ.e l b) l key block) ∧ (∀ x, 0 < Y'.σ.c x → x < n) ∧
      (Tri.get Y.σ.e l b key = 0 → (∀ K, Seg K (cOf Y.σ.c) → GrowK K l b t Y.σ.c Y'.σ.c) ∧ (l = 0 → Y'.σ.c = Y.σ.c) ∧ (2 ≤ Y.σ.c b → 0 < l → ∀ k', k' / 16 = key / 16 → Tri.get Y.σ.e l b k' ≠ 0 → Y'.σ.c (Tri.get Y.σ.e l b k') = Y.σ.c (Tri.get Y.σ.e l b k') + 1)) ∧
      ∀ w p o, Hp w h g m n u (cOf Y.σ.c) Z Y.T → PathAt w g m p o l key → Calls Try.prog 44 #[.pointer (some ⟨h, 0, none⟩), .int .i64 (b : Int), restV p o l, .int .i64 (block : Int)] w (HpG w h g m n u (cOf Y'.σ.c) Z' Y'.T (.tuple #[.int .i64 (t : Int), .int .i64 0]))
  | 0, Y, ext0, G, H, b, P, B, Z, ok, hlp, hbl, hlt, hB, hBl, hroom => by
    have hbp : pos block = P := by have := hbl.2; rw [Nat.pow_zero, Nat.mod_one] at this; omega
    obtain ⟨Y', G', c1, c2, c3, c4, c5, c6⟩ := leaf_spec (n := n) h g m u Z block ok (fun _ => ⟨hbl.1, hbp⟩) hlp hlt
    refine ⟨block, Y', Z, G', lv, pos, hbk, ?_, fun x hx => hlt x (c4 x hx), fun hz => ⟨fun K hK => ?_, fun _ => by rw [c5 hz], fun _ z => absurd z (Nat.lt_irrefl 0)⟩, fun w p o hw hp => set_leaf b p o block (c6 w hw)⟩
    · have e : (fun _ => block) = Tri.setF (Tri.get Y.σ.e 0 b) 0 key block := by
        funext k
        unfold Tri.setF
        rw [Nat.pow_zero, Nat.mod_one, Nat.mod_one, if_pos rfl]
      rw [← e]; exact c1
    · have : b = 0 := hz
      rw [c5 this]
      exact ⟨0, Nat.le_refl _, hK, fun _ => ⟨rfl, fun z => absurd z (Nat.lt_irrefl 0)⟩⟩
  | l + 1, Y, ext0, G, H, b, P, B, Z, ok, hlp, hbl, hlt, hB, hBl, hroom => by
    have hi : key / 16 ^ l % 16 < 16 := Nat.mod_lt _ (by omega)
    have hB1 : ∀ x, Tri.plus ext0 (Tri.oneZ block) x ≤ B + 1 := fun x => by
      unfold Tri.plus
      have := hB x
      have h1 := Tri.oneZ_le block x
      have h2 : Tri.one block x ≤ 1 := by unfold Tri.one; split <;> omega
      omega
    obtain ⟨t, Y1, Z1, G1, H1, hh, hlt1, hcase, hG1, hreach⟩ := reach_spec (n := n) (l := l) (P := P) h g m u Z ok hlp hn hlt hB1 (by omega) (by omega)
    have ht := hh.ok.i.rng t (.inr hh.hd)
    have htc := hh.ok.i.held t hh.hd
    have htn := hlt1 t (by omega)
    -- the block below
    have ok1 : Tri.Ok ntext Y1 (Tri.plus (Tri.plus (Tri.rest ext0 (Y1.σ.e t) (key / 16 ^ l % 16)) (Tri.oneZ block)) (Tri.oneZ (Y1.σ.e t (key / 16 ^ l % 16)))) G1 H1 lv pos := hh.ok.congrE fun x => by
      have := Tri.rest_plus ext0 (n := Y1.σ.e t) hi x
      unfold Tri.plus at this ⊢
      omega
    have hu1 : usedTo (cOf Y1.σ.c) n ≤ usedTo (cOf Y.σ.c) n + 1 := by
      rcases hcase with ⟨_, _, e1, _⟩ | ⟨d1, d2, d3⟩
      · rw [e1]; omega
      · refine usedTo_le_one n (t := t) fun x hx hp => ?_
        by_cases x3 : x < 3
        · rw [cOf_lo x3]; omega
        · rw [cOf_hi (by omega)] at hp ⊢
          rcases d3 with ⟨_, d4, _⟩ | ⟨db, d4, d5, _⟩
          · rw [d4, Tri.one_other hx] at hp; exact hp
          · have e5 := d5 x
            rw [Tri.one_other hx] at e5
            by_cases kz : 0 < Tri.kids (Y.σ.e b) x
            · have hGb : G b := ok.i.ex b (by
                rw [Tri.oneZ_pos db]
                show 0 < _ + Tri.one b b
                rw [Tri.one_same]; omega)
              exact (ok.i.all x).2 (.inl (kids_ge3 ok (ok.i.kids hGb (hlp db).1) kz).2)
            · omega
    have hbl1 : lv block = 0 ∧ pos block = (P * 16 + key / 16 ^ l % 16) * 16 ^ l + key % 16 ^ l := ⟨hbl.1, by
      rw [hbl.2, Nat.mod_pow_succ, Nat.pow_succ, Nat.add_mul, Nat.mul_assoc, Nat.mul_comm 16 (16 ^ l), Nat.mul_comm (key / 16 ^ l % 16) (16 ^ l)]
      omega⟩
    obtain ⟨kid, Y2, Z2, G2, lv2, pos2, hk0, hch, hlt2, hgr, hset⟩ := set_lv h g m u hn hbk l (P := P * 16 + key / 16 ^ l % 16) (B := B + 1) Z1 ok1 (fun hne => (hh.kid _ hi hne).2) hbl1 hlt1 (rest_le hB (kids_one hh.kid)) (by omega) (by omega)
    obtain ⟨het, hTt⟩ := hch.keep.h t hh.hd
    have hkid := (hch.ok.i.rng kid (.inl (hch.ok.i.ex kid (by
      unfold Tri.plus
      rw [Tri.oneZ_pos hk0, Tri.one_same]; omega))))
    have htc2 := hch.ok.i.held t hh.hd
    have hE := kids_ents hh.ok hh.kid hlt1
    obtain ⟨Z3, hent⟩ := enter_spec h g m n u (cOf Y2.σ.c) Z2 Y2.T t ht.1 htn (by rw [cOf_hi ht.1]; omega) (Y1.σ.e t) (hE.le hn) (by rw [hTt, hh.text]) (key / 16 ^ l % 16) kid hi (by omega)
    have hdone := hh.doneE (X3 := ⟨⟨Y2.σ.c, fun x => if x = t then Tri.updE (Y1.σ.e t) (key / 16 ^ l % 16) kid else Y2.σ.e x⟩, updX Y2.T t (ntext (Tri.updE (Y1.σ.e t) (key / 16 ^ l % 16) kid))⟩) (ext0 := ext0) (fun x hx => by unfold Tri.plus; omega) hi hch rfl (fun x hx => if_neg hx) (fun x hx => if_neg hx) (if_pos rfl) (if_pos rfl) ⟨_, hi, by rw [Tri.updE_same]; exact hk0⟩
    have hf : (fun k => if k / 16 ^ l % 16 = key / 16 ^ l % 16 then Tri.setF (Tri.get Y1.σ.e l (Y1.σ.e t (key / 16 ^ l % 16))) l key block k else Tri.get Y.σ.e (l + 1) b k) = Tri.setF (Tri.get Y.σ.e (l + 1) b) (l + 1) key block := by
      have e1 : Tri.get Y.σ.e (l + 1) b = fun k => Tri.get Y1.σ.e l (Y1.σ.e t (k / 16 ^ l % 16)) k := funext fun k => (hh.get k).symm
      rw [e1]
      funext k
      exact Tri.setF_step Y1.σ.e (Y1.σ.e t) l key block k
    rw [hf] at hdone
    refine ⟨t, _, Z3, _, _, _, by omega, hdone, fun x hx => hlt2 x hx, fun hz => ?_, fun w p o hw hp => ?_⟩
    · have hz1 : Tri.get Y1.σ.e l (Y1.σ.e t (key / 16 ^ l % 16)) key = 0 := by rw [hh.get key]; exact hz
      obtain ⟨g1, g2, g3⟩ := hgr hz1
      refine ⟨fun K hK => ?_, fun z => by omega, fun hc2 _ k' hk1 hk3 => ?_⟩
      · show ∃ a, _
        rcases hcase with ⟨db, d1, d2, d3⟩ | ⟨d1, d2, d3⟩
        · rw [d2] at g1
          obtain ⟨a, a1, a2, _⟩ := g1 K hK
          exact ⟨a, by omega, a2, fun z => by omega⟩
        · have ht0 : cOf Y.σ.c t = 0 := by rw [cOf_hi ht.1]; exact d1
          have htK : t = K := hK.least ht0 d2
          have hK1 : Seg (K + 1) (cOf Y1.σ.c) := hK.more fun x => by
            by_cases x3 : x < 3
            · rw [cOf_lo x3, cOf_lo x3]
              exact ⟨fun _ => .inl (by omega), fun _ => by omega⟩
            · rw [cOf_hi (by omega), cOf_hi (by omega), ← htK]
              rcases d3 with ⟨_, d4, _⟩ | ⟨db, d4, d5, _⟩
              · rw [d4]
                by_cases e : x = t
                · subst e; rw [Tri.one_same]; exact ⟨fun _ => .inr rfl, fun _ => by omega⟩
                · rw [Tri.one_other e]; exact ⟨fun z => .inl z, fun z => z.elim id fun y => absurd y e⟩
              · have e5 := d5 x
                have hGb : G b := ok.i.ex b (by
                  rw [Tri.oneZ_pos db]
                  show 0 < _ + Tri.one b b
                  rw [Tri.one_same]; omega)
                have hkz : 0 < Tri.kids (Y.σ.e b) x → 0 < Y.σ.c x := fun kz => (ok.i.all x).2 (.inl (kids_ge3 ok (ok.i.kids hGb (hlp db).1) kz).2)
                by_cases e : x = t
                · subst e
                  rw [Tri.one_same] at e5
                  refine ⟨fun _ => .inr rfl, fun _ => ?_⟩
                  have := Tri.one_other (b := b) (x := x) (fun z => by subst z; omega)
                  omega
                · rw [Tri.one_other e] at e5
                  by_cases e2 : x = b
                  · subst e2
                    rw [Tri.one_same] at e5
                    exact ⟨fun _ => .inl (by omega), fun _ => by omega⟩
                  · rw [Tri.one_other e2] at e5
                    exact ⟨fun z => .inl (by
                      by_cases kz : 0 < Tri.kids (Y.σ.e b) x
                      · exact hkz kz
                      · omega), fun z => by
                      rcases z with z | z
                      · omega
                      · exact absurd z e⟩
          obtain ⟨a, a1, a2, a3⟩ := g1 (K + 1) hK1
          refine ⟨a + 1, by omega, by rw [show K + (a + 1) = K + 1 + a by omega]; exact a2, fun _ => ⟨?_, fun _ => htK⟩⟩
          have hcd : Y1.σ.e t (key / 16 ^ l % 16) = 0 ∨ 2 ≤ Y1.σ.c (Y1.σ.e t (key / 16 ^ l % 16)) := by
            rcases d3 with ⟨_, d4, d5⟩ | ⟨db, d4, d5, d6⟩
            · exact .inl (d5 _)
            · by_cases z : Y1.σ.e t (key / 16 ^ l % 16) = 0
              · exact .inl z
              · right
                have hGb : G b := ok.i.ex b (by
                  rw [Tri.oneZ_pos db]
                  show 0 < _ + Tri.one b b
                  rw [Tri.one_same]; omega)
                rw [d6] at z ⊢
                have hkk := ok.i.kids hGb (hlp db).1
                have k1 : 1 ≤ Tri.kids (Y.σ.e b) (Y.σ.e b (key / 16 ^ l % 16)) := by rw [Tri.kids_ne z]; exact Tri.mul_le hi
                have k2 := (ok.i.all _).2 (.inl (kids_ge3 ok hkk k1).2)
                have k3 := d5 (Y.σ.e b (key / 16 ^ l % 16))
                have k4 : Tri.one b (Y.σ.e b (key / 16 ^ l % 16)) = 0 := Tri.one_other fun e => by
                  have := (hkk _ hi z).2.1
                  rw [e, (hlp db).1] at this; omega
                omega
          have := a3 hcd
          omega
      · rcases hcase with ⟨_, _, _, d3⟩ | ⟨d1, d2, d3⟩
        · omega
        · rcases d3 with ⟨db, _, _⟩ | ⟨db, _, d5, d6⟩
          · subst db
            rw [Tri.get_zero] at hk3
            exact absurd rfl hk3
          · have hGb : G b := ok.i.ex b (by
              rw [Tri.oneZ_pos db]
              show 0 < _ + Tri.one b b
              rw [Tri.one_same]; omega)
            have hkk := ok.i.kids hGb (hlp db).1
            obtain ⟨y1, y2, _⟩ := ok.i.get_at (l + 1) b k' hGb (hlp db).1 hk3
            have hyc := (ok.i.all _).2 (.inl y1)
            have hyb : Tri.one b (Tri.get Y.σ.e (l + 1) b k') = 0 := Tri.one_other fun e => by
              rw [e, (hlp db).1] at y2; omega
            have hyt : Tri.one t (Tri.get Y.σ.e (l + 1) b k') = 0 := Tri.one_other fun e => by
              rw [e] at hyc; omega
            have e5 := d5 (Tri.get Y.σ.e (l + 1) b k')
            show Y2.σ.c _ = _
            by_cases l0 : l = 0
            · subst l0
              rw [g2 rfl]
              have ek : Tri.get Y.σ.e (0 + 1) b k' = Y.σ.e b (k' / 16 ^ 0 % 16) := by
                rw [Tri.get_succ db]; rfl
              have hk1 : Tri.kids (Y.σ.e b) (Tri.get Y.σ.e (0 + 1) b k') = 1 := by
                have a1 := kids_one hkk (Tri.get Y.σ.e (0 + 1) b k')
                have a2 : 1 ≤ Tri.kids (Y.σ.e b) (Tri.get Y.σ.e (0 + 1) b k') := by
                  rw [Tri.kids_ne hk3, ek]
                  exact Tri.mul_le (Nat.mod_lt _ (by omega))
                omega
              omega
            · have hdig : k' / 16 ^ l % 16 = key / 16 ^ l % 16 := by
                obtain ⟨q, rfl⟩ : ∃ q, l = q + 1 := ⟨l - 1, by omega⟩
                rw [Nat.pow_succ, Nat.mul_comm, ← Nat.div_div_eq_div_mul, ← Nat.div_div_eq_div_mul, hk1]
              have eg := hh.get k'
              rw [hdig] at eg
              have hb' : Y1.σ.e t (key / 16 ^ l % 16) ≠ 0 := fun e => by
                rw [e, Tri.get_zero] at eg
                exact hk3 eg.symm
              have hc1 : 2 ≤ Y1.σ.c (Y1.σ.e t (key / 16 ^ l % 16)) := by
                rw [d6] at hb' ⊢
                have k1 : 1 ≤ Tri.kids (Y.σ.e b) (Y.σ.e b (key / 16 ^ l % 16)) := by rw [Tri.kids_ne hb']; exact Tri.mul_le hi
                have k2 := (ok.i.all _).2 (.inl (kids_ge3 ok hkk k1).2)
                have k3 := d5 (Y.σ.e b (key / 16 ^ l % 16))
                have k4 : Tri.one b (Y.σ.e b (key / 16 ^ l % 16)) = 0 := Tri.one_other fun e => by
                  have := (hkk _ hi hb').2.1
                  rw [e, (hlp db).1] at this; omega
                omega
              have := g3 hc1 (by omega) k' hk1 (by rw [eg]; exact hk3)
              rw [eg] at this
              rw [this]
              have hk0 : Tri.kids (Y.σ.e b) (Tri.get Y.σ.e (l + 1) b k') = 0 := by
                apply Classical.byContradiction
                intro z
                obtain ⟨h0, j, hj, ej⟩ := Tri.kids_pos (Nat.pos_of_ne_zero z)
                have := (hkk j hj (by rw [ej]; exact h0)).2.1
                rw [ej] at this
                omega
              omega
    · refine set_step hw b p o _ l _ t kid block (Y1.σ.e t) hi ((hE.le hn) _ hi) hp.1 hp.2.1 hp.2.2.1 hp.head rfl hreach (fun W hW hT => hset W p _ hW (hp.next.to hT)) (fun W hW => hent W hW)
end
end Go.Proofs.Ytlbjfigdocbffaa
