/- trie: counts as the table has them; room. -/
import Derived.Test.YtlbjfigdocbffaaTriLeaf
namespace Go.Proofs.Ytlbjfigdocbffaa
open Go.RowKit
set_option linter.unusedVariables false
set_option linter.unusedSimpArgs false

/-- The table's counts: those of the reserved blocks are 1. -/
def cOf (c : Nat → Nat) : Nat → Nat := fun i => if i < 3 then 1 else c i
theorem cOf_lo {c : Nat → Nat} {i : Nat} (h : i < 3) : cOf c i = 1 := if_pos h
theorem cOf_hi {c : Nat → Nat} {i : Nat} (h : 3 ≤ i) : cOf c i = c i := if_neg (by omega)
theorem cOf_upd (c : Nat → Nat) {t : Nat} (h : 3 ≤ t) (v : Nat) : upd (cOf c) t v = cOf (upd c t v) := by
  funext x
  unfold upd cOf
  by_cases e : x = t
  · subst e; rw [if_pos rfl, if_neg (by omega)]; exact (if_pos rfl).symm
  · rw [if_neg e]
    split
    · rfl
    · exact (if_neg e).symm
theorem cOf_free {c : Nat → Nat} {t : Nat} (h : cOf c t = 0) : 3 ≤ t ∧ c t = 0 := by
  rcases Nat.lt_or_ge t 3 with h1 | h1
  · rw [cOf_lo h1] at h; omega
  · rw [cOf_hi h1] at h; exact ⟨h1, h⟩
theorem usedTo_one {C C' : Nat → Nat} {t : Nat} : ∀ k, (∀ x, x < k → x ≠ t → 0 < C' x → 0 < C x) → usedTo C' k ≤ usedTo C k + if t < k then 1 else 0
  | 0, _ => by simp [usedTo]
  | k + 1, h => by
    have ih := usedTo_one k fun x hx => h x (by omega)
    have hk := h k (by omega)
    rw [used_succ, used_succ]
    by_cases e : k = t
    · subst e
      rw [if_neg (Nat.lt_irrefl k)] at ih
      rw [if_pos (show k < k + 1 by omega)]
      have : (if 0 < C' k then 1 else 0) ≤ 1 := by split <;> omega
      omega
    · have hk := hk e
      have h1 : (if 0 < C' k then 1 else 0) ≤ (if 0 < C k then 1 else 0) := by
        by_cases z : 0 < C' k
        · rw [if_pos z, if_pos (hk z)]; exact Nat.le_refl _
        · rw [if_neg z]; exact Nat.zero_le _
      have h2 : (if t < k then 1 else 0) ≤ (if t < k + 1 then 1 else 0) := by
        by_cases z : t < k
        · rw [if_pos z, if_pos (by omega)]; exact Nat.le_refl _
        · rw [if_neg z]; exact Nat.zero_le _
      omega
theorem usedTo_le_one {C C' : Nat → Nat} {t : Nat} (k : Nat) (h : ∀ x, x ≠ t → 0 < C' x → 0 < C x) : usedTo C' k ≤ usedTo C k + 1 := by
  have := usedTo_one (C := C) (C' := C') (t := t) k fun x _ => h x
  have h2 : (if t < k then 1 else 0) ≤ 1 := by split <;> omega
  omega
theorem usedTo_mono {C C' : Nat → Nat} : ∀ k, (∀ x, x < k → 0 < C' x → 0 < C x) → usedTo C' k ≤ usedTo C k
  | 0, _ => by simp [usedTo]
  | k + 1, h => by
    have ih := usedTo_mono k fun x hx => h x (by omega)
    have hk := h k (by omega)
    rw [used_succ, used_succ]
    have h1 : (if 0 < C' k then 1 else 0) ≤ (if 0 < C k then 1 else 0) := by
      by_cases z : 0 < C' k
      · rw [if_pos z, if_pos (hk z)]; exact Nat.le_refl _
      · rw [if_neg z]; exact Nat.zero_le _
    omega
theorem usedTo_congr {C C' : Nat → Nat} (k : Nat) (h : ∀ x, x < k → (0 < C' x ↔ 0 < C x)) : usedTo C' k = usedTo C k :=
  Nat.le_antisymm (usedTo_mono k fun x hx => (h x hx).1) (usedTo_mono k fun x hx => (h x hx).2)
theorem usedTo_top {C : Nat → Nat} {n : Nat} (hz : ∀ i, n ≤ i → C i = 0) : ∀ d, usedTo C (n + d) = usedTo C n
  | 0 => rfl
  | d + 1 => by
    rw [show n + (d + 1) = n + d + 1 by omega, used_succ, usedTo_top hz d, hz (n + d) (by omega)]; simp
theorem used_full {C : Nat → Nat} : ∀ k, usedTo C k = k → ∀ j, j < k → 0 < C j
  | 0, _, j, hj => absurd hj (Nat.not_lt_zero _)
  | k + 1, h, j, hj => by
    have hle := used_le C k
    rw [used_succ] at h
    have h0 : 0 < C k := by
      by_cases z : 0 < C k
      · exact z
      · rw [if_neg z] at h; omega
    rw [if_pos h0] at h
    by_cases e : j = k
    · subst e; exact h0
    · exact used_full k (by omega) j (by omega)
/-- Where some are free there is a least one. -/
theorem least_free {C : Nat → Nat} : ∀ {k}, usedTo C k < k → ∃ t, t < k ∧ C t = 0 ∧ ∀ j, j < t → C j ≠ 0
  | 0, h => absurd h (Nat.not_lt_zero _)
  | k + 1, h => by
    by_cases hk : usedTo C k < k
    · obtain ⟨t, h1, h2, h3⟩ := least_free hk
      exact ⟨t, by omega, h2, h3⟩
    · have hle := used_le C k
      rw [used_succ] at h
      have h0 : C k = 0 := by
        by_cases z : 0 < C k
        · rw [if_pos z] at h; omega
        · omega
      exact ⟨k, by omega, h0, fun j hj => by have := used_full (C := C) k (by omega) j hj; omega⟩
/-- The counts above a block of the table. -/
def Seg (K : Nat) (C : Nat → Nat) : Prop := ∀ i, 0 < C i ↔ i < K
theorem Seg.least {K t : Nat} {C : Nat → Nat} (h : Seg K C) (h0 : C t = 0) (hl : ∀ j, j < t → C j ≠ 0) : t = K := by
  have h1 : ¬ t < K := fun z => by have := (h t).2 z; omega
  rcases Nat.lt_or_ge K t with h2 | h2
  · have := (h K).1 (Nat.pos_of_ne_zero (hl K h2)); omega
  · omega
theorem Seg.more {K : Nat} {C C' : Nat → Nat} (h : Seg K C) (hc : ∀ x, 0 < C' x ↔ 0 < C x ∨ x = K) : Seg (K + 1) C' := fun i => by
  rw [hc i, h i]; omega
theorem Seg.same {K : Nat} {C C' : Nat → Nat} (h : Seg K C) (hc : ∀ x, 0 < C' x ↔ 0 < C x) : Seg K C' := fun i => by rw [hc i, h i]
theorem kids_le (e : Nat → Nat) (x : Nat) : Tri.kids e x ≤ 16 := by
  unfold Tri.kids
  split
  · omega
  · unfold Tri.mul
    have := Tri.sumTo_bound (f := fun i => if e i = x then 1 else 0) (m := 1) 16 (fun i _ => by
      show (if e i = x then 1 else 0) ≤ 1
      split <;> omega)
    omega
section
variable {Y Y1 : Tri.TW ByteArray} {ext0 : Nat → Nat} {G H : Nat → Prop} {lv pos : Nat → Nat} {b : Nat}
theorem ok_count (h : Tri.Ok ntext Y ext0 G H lv pos) {B : Nat} (hB : ∀ x, ext0 x ≤ B) (x : Nat) : Y.σ.c x ≤ B + 201 := by
  by_cases hG : G x
  · rw [h.i.cnt x hG]
    have := h.i.few hG
    have := hB x
    omega
  · by_cases hH : H x
    · rw [h.i.held x hH]; omega
    · have := (h.i.all x)
      have : ¬ 0 < Y.σ.c x := fun z => (this.1 z).elim hG hH
      omega
theorem kids_ents {n l P : Nat} {e : Nat → Nat} (h : Tri.Ok ntext Y ext0 G H lv pos) (hk : Tri.Kids G lv pos e l P) (hlt : ∀ x, 0 < Y.σ.c x → x < n) : Ents n (cOf Y.σ.c) e := fun i hi hn => by
  obtain ⟨hG, _, _⟩ := hk i hi hn
  have h3 := (h.i.rng _ (.inl hG)).1
  have hc := (h.i.all _).2 (.inl hG)
  exact ⟨h3, hlt _ hc, by rw [cOf_hi h3]; exact hc⟩
theorem kids_ge3 {l P : Nat} {e : Nat → Nat} (h : Tri.Ok ntext Y ext0 G H lv pos) (hk : Tri.Kids G lv pos e l P) {x : Nat} (hx : 0 < Tri.kids e x) : 3 ≤ x ∧ G x := by
  obtain ⟨h0, i, hi, he⟩ := Tri.kids_pos hx
  obtain ⟨hG, _, _⟩ := hk i hi (by rw [he]; exact h0)
  rw [he] at hG
  exact ⟨(h.i.rng _ (.inl hG)).1, hG⟩
end
section
variable {h g m n : Nat} {u : Value} {Y : Tri.TW ByteArray} {ext0 : Nat → Nat} {G H : Nat → Prop} {lv pos : Nat → Nat} {b l P B : Nat}
/-- What it needs to make a node its own; what it is then. -/
theorem own_spec (h g m : Nat) (u : Value) (Z : Int → Bool) (ok : Tri.Ok ntext Y (Tri.plus ext0 (Tri.one b)) G H lv pos) (hl : lv b = l + 1) (hp : pos b = P) (hn : n ≤ 200) (hlt : ∀ x, 0 < Y.σ.c x → x < n) (hB : ∀ x, ext0 x ≤ B) (hB2 : B ≤ 30) (hroom : usedTo (cOf Y.σ.c) n < n) :
    ∃ t Y1 Z1 G1 H1, Tri.Held ntext Y Y1 ext0 G H lv pos G1 H1 lv pos l P b t ∧ (∀ x, 0 < Y1.σ.c x → x < n) ∧ (t = b ∧ Y1 = Y ∧ Y.σ.c b = 1 ∨ Y.σ.c t = 0 ∧ (∀ j, j < t → cOf Y.σ.c j ≠ 0) ∧ 2 ≤ Y.σ.c b ∧ (∀ x, Y1.σ.c x + Tri.one b x = Y.σ.c x + Tri.kids (Y.σ.e b) x + Tri.one t x) ∧ Y1.σ.e t = Y.σ.e b) ∧ (∀ x, G1 x → G x) ∧
      ∀ w, Hp w h g m n u (cOf Y.σ.c) Z Y.T → Calls Try.prog 57 #[.pointer (some ⟨h, 0, none⟩), .int .i64 (b : Int)] w (HpG w h g m n u (cOf Y1.σ.c) Z1 Y1.T (.tuple #[.int .i64 (t : Int), .agg (ndL (Y1.σ.e t)).toArray, .int .i64 0])) := by
  have hb1 : 1 ≤ Tri.plus ext0 (Tri.one b) b := by unfold Tri.plus; rw [Tri.one_same]; omega
  have hG := ok.i.ex b (by omega)
  have h3 := (ok.i.rng b (.inl hG)).1
  have hc0 := (ok.i.all b).2 (.inl hG)
  have hbn := hlt b hc0
  have hk := ok.i.kids hG hl
  have hE := kids_ents ok hk hlt
  have hx := ok.t b hG (by omega)
  by_cases hc : Y.σ.c b = 1
  · refine ⟨b, Y, Z, _, _, ok.held1 hc hl hp, hlt, .inl ⟨rfl, rfl, hc⟩, fun x hx => hx.1, fun w hw => ?_⟩
    exact (own_one hw b h3 hbn (by rw [cOf_hi h3]; exact hc) _ hx hE).mono fun x w' k => HpG.same hw k
  · have hc2 : 2 ≤ Y.σ.c b := by omega
    obtain ⟨t, ht, ht0, htl⟩ := least_free hroom
    obtain ⟨t3, tc0⟩ := cOf_free ht0
    have htb : t ≠ b := fun e => by subst e; omega
    have hko : ∀ x, x < 3 → Tri.kids (Y.σ.e b) x = 0 := fun x hx => by
      apply Classical.byContradiction
      intro z
      have := (kids_ge3 ok hk (Nat.pos_of_ne_zero z)).1
      omega
    have hC : upd (cAdd (upd (cOf Y.σ.c) t 1) (Y.σ.e b) 16) b (cAdd (upd (cOf Y.σ.c) t 1) (Y.σ.e b) 16 b - 1) = cOf fun x => Y.σ.c x + Tri.kids (Y.σ.e b) x + Tri.one t x - Tri.one b x := by
      funext x
      have e1 : ∀ y, upd (cOf Y.σ.c) t 1 y = cOf Y.σ.c y + Tri.one t y := fun y => by
        unfold upd
        by_cases e : y = t
        · subst e; rw [if_pos rfl, ht0, Tri.one_same]
        · rw [if_neg e, Tri.one_other e]; rfl
      have e2 : ∀ y, cAdd (upd (cOf Y.σ.c) t 1) (Y.σ.e b) 16 y = cOf Y.σ.c y + Tri.one t y + Tri.kids (Y.σ.e b) y := fun y => by rw [cAdd_all, e1]
      by_cases e : x = b
      · subst e
        rw [upd, if_pos rfl, e2, cOf_hi h3, cOf_hi h3, Tri.one_same]; omega
      · rw [upd, if_neg e, e2]
        by_cases x3 : x < 3
        · rw [cOf_lo x3, cOf_lo x3, hko x x3, Tri.one_other (by omega)]
        · rw [cOf_hi (by omega), cOf_hi (by omega), Tri.one_other e]; omega
    have hroom2 : ∀ x, cAdd (upd (cOf Y.σ.c) t 1) (Y.σ.e b) 16 x ≤ 255 := fun x => by
      rw [cAdd_all]
      have k1 := kids_le (Y.σ.e b) x
      have k2 := ok_count ok (B := B + 1) (fun y => by
        unfold Tri.plus Tri.one
        have := hB y
        split <;> omega) x
      unfold upd cOf
      split
      · omega
      · split <;> omega
    have hcx : ∀ x, (fun x => Y.σ.c x + Tri.kids (Y.σ.e b) x + Tri.one t x - Tri.one b x) x + Tri.one b x = Y.σ.c x + Tri.kids (Y.σ.e b) x + Tri.one t x := fun x => by
      show Y.σ.c x + Tri.kids (Y.σ.e b) x + Tri.one t x - Tri.one b x + Tri.one b x = _
      by_cases e : x = b
      · subst e; rw [Tri.one_same]; omega
      · rw [Tri.one_other e]; rfl
    refine ⟨t, ⟨⟨fun x => Y.σ.c x + Tri.kids (Y.σ.e b) x + Tri.one t x - Tri.one b x, fun x => if x = t then Y.σ.e b else Y.σ.e x⟩, updX Y.T t (ntext (Y.σ.e b))⟩, updZ Z t true, _, _,
      ok.held2 (t := t) hc2 hl hp tc0 t3 (by omega) hcx (fun x hx => if_neg hx) (fun x hx => if_neg hx) (if_pos rfl) (if_pos rfl), fun x hx => ?_, .inr ⟨tc0, htl, hc2, hcx, if_pos rfl⟩, fun x hx => hx, fun w hw => ?_⟩
    · have hx : 0 < Y.σ.c x + Tri.kids (Y.σ.e b) x + Tri.one t x - Tri.one b x := hx
      by_cases e : x = t
      · subst e; exact ht
      · rw [Tri.one_other e] at hx
        by_cases kz : 0 < Tri.kids (Y.σ.e b) x
        · exact hlt x ((ok.i.all x).2 (.inl (kids_ge3 ok hk kz).2))
        · exact hlt x (by omega)
    · have := own_copy hw b h3 hbn (by rw [cOf_hi h3]; exact hc2) _ hx hE t t3 ht ht0 htl hroom2
      rw [hC] at this
      show Calls _ _ _ _ (HpG w h g m n u _ _ _ (.tuple #[.int .i64 (t : Int), .agg (ndL (if t = t then Y.σ.e b else Y.σ.e t)).toArray, .int .i64 0]))
      rw [if_pos rfl]
      exact this
/-- The same, or a new node where there is none. -/
theorem reach_spec (h g m : Nat) (u : Value) (Z : Int → Bool) (ok : Tri.Ok ntext Y (Tri.plus ext0 (Tri.oneZ b)) G H lv pos) (hlp : b ≠ 0 → lv b = l + 1 ∧ pos b = P) (hn : n ≤ 200) (hlt : ∀ x, 0 < Y.σ.c x → x < n) (hB : ∀ x, ext0 x ≤ B) (hB2 : B ≤ 30) (hroom : usedTo (cOf Y.σ.c) n < n) :
    ∃ t Y1 Z1 G1 H1, Tri.Held ntext Y Y1 ext0 G H lv pos G1 H1 lv pos l P b t ∧ (∀ x, 0 < Y1.σ.c x → x < n) ∧ (b ≠ 0 ∧ t = b ∧ Y1 = Y ∧ Y.σ.c b = 1 ∨ Y.σ.c t = 0 ∧ (∀ j, j < t → cOf Y.σ.c j ≠ 0) ∧ (b = 0 ∧ (∀ x, Y1.σ.c x = Y.σ.c x + Tri.one t x) ∧ (∀ i, Y1.σ.e t i = 0) ∨ b ≠ 0 ∧ 2 ≤ Y.σ.c b ∧ (∀ x, Y1.σ.c x + Tri.one b x = Y.σ.c x + Tri.kids (Y.σ.e b) x + Tri.one t x) ∧ Y1.σ.e t = Y.σ.e b)) ∧ (∀ x, G1 x → G x) ∧
      ∀ w, Hp w h g m n u (cOf Y.σ.c) Z Y.T → Calls Try.prog 55 #[.pointer (some ⟨h, 0, none⟩), .int .i64 (b : Int)] w (HpG w h g m n u (cOf Y1.σ.c) Z1 Y1.T (.tuple #[.int .i64 (t : Int), .agg (ndL (Y1.σ.e t)).toArray, .int .i64 0])) := by
  by_cases hb : b = 0
  · subst hb
    have ok' : Tri.Ok ntext Y ext0 G H lv pos := ok.congrE fun x => by unfold Tri.plus; rw [Tri.oneZ_zero]; rfl
    obtain ⟨t, ht, ht0, htl⟩ := least_free hroom
    obtain ⟨t3, tc0⟩ := cOf_free ht0
    refine ⟨t, ⟨⟨fun x => Y.σ.c x + Tri.one t x, fun x => if x = t then fun _ => 0 else Y.σ.e x⟩, updX Y.T t (ntext fun _ => 0)⟩, updZ Z t true, _, _,
      ok'.held0 (t := t) tc0 t3 (by omega) (fun _ => rfl) (fun x hx => if_neg hx) (fun x hx => if_neg hx) (if_pos rfl) (if_pos rfl), fun x hx => ?_, .inr ⟨tc0, htl, .inl ⟨rfl, fun _ => rfl, fun i => by show (if t = t then (fun _ => 0) else Y.σ.e t) i = 0; rw [if_pos rfl]⟩⟩, fun x hx => hx, fun w hw => ?_⟩
    · have hx : 0 < Y.σ.c x + Tri.one t x := hx
      by_cases e : x = t
      · subst e; exact ht
      · rw [Tri.one_other e] at hx; exact hlt x hx
    · have := reach_none hw t ht ht0 htl t3
      have hC : upd (cOf Y.σ.c) t 1 = cOf fun x => Y.σ.c x + Tri.one t x := by
        rw [cOf_upd _ t3]
        congr 1
        funext y
        unfold upd
        by_cases e : y = t
        · subst e; rw [if_pos rfl, Tri.one_same, tc0]
        · rw [if_neg e, Tri.one_other e]; rfl
      rw [hC] at this
      show Calls _ _ _ _ (HpG w h g m n u _ _ _ (.tuple #[.int .i64 (t : Int), .agg (ndL (if t = t then fun _ => 0 else Y.σ.e t)).toArray, .int .i64 0]))
      rw [if_pos rfl]
      exact this
  · obtain ⟨hl, hp⟩ := hlp hb
    rw [Tri.oneZ_pos hb] at ok
    obtain ⟨t, Y1, Z1, G1, H1, c1, c2, c3, c4, c5⟩ := own_spec (n := n) h g m u Z ok hl hp hn hlt hB hB2 hroom
    refine ⟨t, Y1, Z1, G1, H1, c1, c2, ?_, c4, fun w hw => reach_some hw b hb t _ c5⟩
    rcases c3 with ⟨d1, d2, d3⟩ | ⟨d1, d2, d3, d4, d5⟩
    · exact .inl ⟨hb, d1, d2, d3⟩
    · exact .inr ⟨d1, d2, .inr ⟨hb, d3, d4, d5⟩⟩
end
end Go.Proofs.Ytlbjfigdocbffaa
