/- trie: four trees, and what is done to one of them. -/
import Derived.Test.YtlbjfigdocbffaaTriPick
namespace Go.Proofs.Ytlbjfigdocbffaa
open Go.RowKit
set_option linter.unusedVariables false
set_option linter.unusedSimpArgs false

def rootsX (R : Nat → Nat) : Nat → Nat := fun x => Tri.sumTo (fun i => Tri.oneZ (R i) x) 4
def exceptX (R : Nat → Nat) (at_ : Nat) : Nat → Nat := fun x => Tri.sumTo (fun i => if i = at_ then 0 else Tri.oneZ (R i) x) 4
theorem oneZ_le1 (b x : Nat) : Tri.oneZ b x ≤ 1 := by
  have h1 := Tri.oneZ_le b x
  have h2 : Tri.one b x ≤ 1 := by unfold Tri.one; split <;> omega
  omega
theorem exceptX_le (R : Nat → Nat) (at_ x : Nat) : exceptX R at_ x ≤ 4 := by
  have := Tri.sumTo_bound (f := fun i => if i = at_ then 0 else Tri.oneZ (R i) x) (m := 1) 4 (fun i _ => by
    show (if i = at_ then 0 else Tri.oneZ (R i) x) ≤ 1
    have := oneZ_le1 (R i) x
    split <;> omega)
  exact this
theorem rootsX_le (R : Nat → Nat) (x : Nat) : rootsX R x ≤ 4 := by
  have := Tri.sumTo_bound (f := fun i => Tri.oneZ (R i) x) (m := 1) 4 (fun i _ => oneZ_le1 (R i) x)
  exact this
theorem rootsX_split (R : Nat → Nat) {at_ : Nat} (h : at_ < 4) (t x : Nat) : rootsX (updF R at_ t) x = Tri.plus (exceptX R at_) (Tri.oneZ t) x := by
  unfold rootsX exceptX Tri.plus updF
  simp only [Tri.sumTo]
  rcases (show at_ = 0 ∨ at_ = 1 ∨ at_ = 2 ∨ at_ = 3 by omega) with rfl | rfl | rfl | rfl <;> simp <;> omega
theorem updF_id {α : Type} (R : Nat → α) (at_ : Nat) : updF R at_ (R at_) = R := by
  funext j; unfold updF; split
  · next h => rw [h]
  · rfl
theorem rootsX_at (R : Nat → Nat) {at_ : Nat} (h : at_ < 4) (x : Nat) : rootsX R x = Tri.plus (exceptX R at_) (Tri.oneZ (R at_)) x := by
  have := rootsX_split R h (R at_) x
  rw [updF_id] at this; exact this
theorem exceptX_pos (R : Nat → Nat) {at_ i : Nat} (hi : i < 4) (hne : i ≠ at_) (h0 : R i ≠ 0) : 0 < exceptX R at_ (R i) := by
  have := Tri.sumTo_le (f := fun j => if j = at_ then 0 else Tri.oneZ (R j) (R i)) 4 hi
  simp only [if_neg hne] at this
  rw [Tri.oneZ_pos h0, Tri.one_same] at this
  exact this
theorem rootsX_pos (R : Nat → Nat) {i : Nat} (hi : i < 4) (h0 : R i ≠ 0) : 0 < rootsX R (R i) := by
  have := Tri.sumTo_le (f := fun j => Tri.oneZ (R j) (R i)) 4 hi
  have this : Tri.oneZ (R i) (R i) ≤ rootsX R (R i) := this
  rw [Tri.oneZ_pos h0, Tri.one_same] at this
  exact this
theorem rootsX_some {R : Nat → Nat} {x : Nat} (h : 0 < rootsX R x) : ∃ i, i < 4 ∧ R i = x ∧ x ≠ 0 := by
  obtain ⟨i, hi, h2⟩ := Tri.sumTo_pos 4 h
  refine ⟨i, hi, ?_⟩
  by_cases h0 : R i = 0
  · rw [h0, Tri.oneZ_zero] at h2; exact absurd h2 (Nat.lt_irrefl 0)
  · rw [Tri.oneZ_pos h0] at h2
    have := one_pos h2
    exact ⟨this.symm, by omega⟩
/-- Nobody works on a block. -/
def noH : Nat → Prop := fun _ => False
/-- Four trees. -/
structure TS (n : Nat) (Y : Tri.TW ByteArray) (R : Nat → Nat) (G : Nat → Prop) (lv pos : Nat → Nat) : Prop where
  ok : Tri.Ok ntext Y (rootsX R) G noH lv pos
  rt : ∀ i, i < 4 → R i ≠ 0 → lv (R i) = 3 ∧ pos (R i) = 0
  lt : ∀ x, 0 < Y.σ.c x → x < n
theorem TS.root {n : Nat} {Y : Tri.TW ByteArray} {R : Nat → Nat} {G : Nat → Prop} {lv pos : Nat → Nat} (h : TS n Y R G lv pos) {i : Nat} (hi : i < 4) : R i ≠ 0 → G (R i) ∧ lv (R i) = 3 ∧ pos (R i) = 0 := fun h0 => ⟨h.ok.i.ex _ (rootsX_pos R hi h0), h.rt i hi h0⟩
theorem TS.root2 {n : Nat} {Y : Tri.TW ByteArray} {R : Nat → Nat} {G : Nat → Prop} {lv pos : Nat → Nat} (h : TS n Y R G lv pos) {i : Nat} (hi : i < 4) : R i ≠ 0 → G (R i) ∧ lv (R i) = 3 := fun h0 => ⟨(h.root hi h0).1, (h.root hi h0).2.1⟩
/-- Two states that tell the same of all trees but one. -/
def SameBut (Y Y' : Tri.TW ByteArray) (R : Nat → Nat) (at_ : Nat) : Prop := ∀ i, i < 4 → i ≠ at_ → ∀ k, treeF Y'.σ.e Y'.T (R i) k = treeF Y.σ.e Y.T (R i) k
section
variable {n : Nat} {Y Y1 Y' : Tri.TW ByteArray} {R : Nat → Nat} {G G1 G' : Nat → Prop} {lv lv1 lv' pos pos1 pos' : Nat → Nat} {at_ t : Nat} {f : Nat → Nat}
theorem ts_chg (hat : at_ < 4) (ch : Tri.Chg ntext Y1 Y' (exceptX R at_) G1 noH lv1 pos1 G' lv' pos' 3 0 t f) (hrt : ∀ i, i < 4 → i ≠ at_ → R i ≠ 0 → lv1 (R i) = 3 ∧ pos1 (R i) = 0) (hlt : ∀ x, 0 < Y'.σ.c x → x < n) :
    TS n Y' (updF R at_ t) G' lv' pos' ∧ SameBut Y1 Y' R at_ ∧ ∀ k, treeF Y'.σ.e Y'.T t k = if f k = 0 then none else some (Y1.T (f k)) := by
  have hg : t ≠ 0 → G' t := fun h0 => ch.ok.i.ex t (by unfold Tri.plus; rw [Tri.oneZ_pos h0, Tri.one_same]; omega)
  refine ⟨⟨ch.ok.congrE fun x => (rootsX_split R hat t x).symm, fun i hi h0 => ?_, hlt⟩, fun i hi hne k => ?_, fun k => ?_⟩
  · by_cases e : i = at_
    · subst e; rw [updF_same] at h0 ⊢; exact ch.at_ h0
    · rw [updF_other e] at h0 ⊢
      obtain ⟨_, q2, q3, _⟩ := ch.keep.g (R i) (exceptX_pos R hi e h0)
      obtain ⟨p2, p3⟩ := hrt i hi e h0
      exact ⟨q2.trans p2, q3.trans p3⟩
  · by_cases h0 : R i = 0
    · unfold treeF; rw [h0, Tri.get_zero, Tri.get_zero, if_pos rfl, if_pos rfl]
    · obtain ⟨q1, q2, q3, q4⟩ := ch.keep.g (R i) (exceptX_pos R hi hne h0)
      have q4 := q4 k
      rw [(hrt i hi hne h0).1] at q4
      rw [(hrt i hi hne h0).1] at q2
      unfold treeF
      by_cases hz : Tri.get Y'.σ.e 3 (R i) k = 0
      · rw [if_pos hz, if_pos (q4 ▸ hz)]
      · rw [if_neg hz, if_neg (q4 ▸ hz), ← q4]
        obtain ⟨y1, y2, _⟩ := ch.ok.i.get_at 3 (R i) k q1 q2 hz
        rw [(ch.keep.d _ y1 y2).2.2.2]
  · unfold treeF
    rw [ch.get k]
    by_cases hz : f k = 0
    · rw [if_pos hz, if_pos hz]
    · rw [if_neg hz, if_neg hz]
      have hk := ch.get k
      have ht0 : t ≠ 0 := fun e => by rw [e, Tri.get_zero] at hk; exact hz hk.symm
      obtain ⟨y1, y2, _⟩ := ch.ok.i.get_at 3 t k (hg ht0) (ch.at_ ht0).1 (by rw [hk]; exact hz)
      rw [hk] at y1 y2
      rw [(ch.keep.d _ y1 y2).2.2.2]
end
section
variable {n : Nat} {Y : Tri.TW ByteArray} {R : Nat → Nat} {G : Nat → Prop} {lv pos : Nat → Nat} {at_ key : Nat} {h g m : Nat} {u : Value}
theorem TS.room (ts : TS n Y R G lv pos) : True := trivial
/-- A block is taken, has a text, and a key of one tree leads to it. -/
theorem ts_set (h g m : Nat) (u : Value) (Z : Int → Bool) (hn : n ≤ 200) (ts : TS n Y R G lv pos) (hat : at_ < 4) (hk : key < 4096) (s : ByteArray) (hroom : usedTo (cOf Y.σ.c) n + 4 ≤ n) :
    ∃ t, t < n ∧ cOf Y.σ.c t = 0 ∧ (∀ j, j < t → cOf Y.σ.c j ≠ 0) ∧ 3 ≤ t ∧ ∃ r Y' Z' G' lv' pos', r ≠ 0 ∧ TS n Y' (updF R at_ r) G' lv' pos' ∧ SameBut Y Y' R at_ ∧ (∀ k, treeF Y'.σ.e Y'.T r k = if k % 4096 = key then some s else treeF Y.σ.e Y.T (R at_) k) ∧
      (Tri.get Y.σ.e 3 (R at_) key = 0 → (∀ K, Seg K (cOf (upd Y.σ.c t 1)) → GrowK K 3 (R at_) r (upd Y.σ.c t 1) Y'.σ.c) ∧ (2 ≤ Y.σ.c (R at_) → ∀ k', k' / 16 = key / 16 → Tri.get Y.σ.e 3 (R at_) k' ≠ 0 → Y'.σ.c (Tri.get Y.σ.e 3 (R at_) k') = Y.σ.c (Tri.get Y.σ.e 3 (R at_) k') + 1)) ∧
      (∀ k, Tri.get Y'.σ.e 3 r k = if k % 4096 = key then t else Tri.get Y.σ.e 3 (R at_) k) ∧ (∀ i, i < 4 → i ≠ at_ → ∀ k, Tri.get Y'.σ.e 3 (R i) k = Tri.get Y.σ.e 3 (R i) k) ∧
      ∀ w, Hp w h g m n u (cOf (upd Y.σ.c t 1)) Z (updX Y.T t s) → Calls Try.prog 24 #[.pointer (some ⟨h, 0, none⟩), .int .i64 (R at_ : Int), .int .i64 (key : Int), .int .i64 (t : Int)] w (HpG w h g m n u (cOf Y'.σ.c) Z' Y'.T (.tuple #[.int .i64 (r : Int), .int .i64 0])) := by
  obtain ⟨t, ht, ht0, htl⟩ := least_free (C := cOf Y.σ.c) (k := n) (by omega)
  obtain ⟨t3, tc0⟩ := cOf_free ht0
  have t00 : t ≠ 0 := by omega
  have hnG : ¬ (G t ∨ noH t) := fun z => by have := (ts.ok.i.all t).2 z; omega
  have htG : ∀ x, G x → x ≠ t := fun x hx e => hnG (.inl (e ▸ hx))
  have hgt : ∀ i, i < 4 → ∀ k, Tri.get Y.σ.e 3 (R i) k ≠ 0 → Tri.get Y.σ.e 3 (R i) k ≠ t := fun i hi k hne => by
    have h0 : R i ≠ 0 := fun e => by rw [e, Tri.get_zero] at hne; exact hne rfl
    obtain ⟨q1, q2, q3⟩ := ts.root hi h0
    exact htG _ (ts.ok.i.get_at 3 (R i) k q1 q2 hne).1
  obtain ⟨Y1, hY1⟩ : ∃ Y1 : Tri.TW ByteArray, Y1 = ⟨⟨upd Y.σ.c t 1, Y.σ.e⟩, updX Y.T t s⟩ := ⟨_, rfl⟩
  obtain ⟨a1, a2⟩ := Tri.Ok.alloc_ (X' := Y1) ts.ok tc0 t3 (by omega) (fun x => by
    rw [hY1]
    show upd Y.σ.c t 1 x = _
    unfold upd
    by_cases e : x = t
    · subst e; rw [if_pos rfl, Tri.one_same, tc0]
    · rw [if_neg e, Tri.one_other e]; rfl) (fun x _ => by rw [hY1]) (fun x hx => by rw [hY1]; exact if_neg hx)
  have a3 : Tri.Ok ntext Y1 (Tri.plus (rootsX R) (if 0 < 0 then Tri.kids (Y1.σ.e t) else fun _ => 0)) G (fun x => noH x ∨ x = t) lv pos := a1.congrE fun x => by unfold Tri.plus; simp
  obtain ⟨b1, _⟩ := Tri.Ok.close_ (X' := Y1) (l := 0) (P := key) a3 (.inr rfl) (fun z => absurd z (Nat.lt_irrefl 0)) (fun z => absurd z (Nat.lt_irrefl 0)) rfl (fun _ _ => rfl) (fun _ _ => rfl) (fun z => absurd z (Nat.lt_irrefl 0))
  have b2 : Tri.Ok ntext Y1 (Tri.plus (Tri.plus (exceptX R at_) (Tri.oneZ t)) (Tri.oneZ (R at_))) (fun x => G x ∨ x = t) noH (fun x => if x = t then 0 else lv x) (fun x => if x = t then key else pos x) := by
    refine (b1.congrH (H' := noH) fun x => ⟨fun z => z.1.elim id (fun e => absurd e z.2), fun z => z.elim⟩).congrE fun x => ?_
    have := rootsX_at R hat x
    unfold Tri.plus at this ⊢
    rw [this, Tri.oneZ_pos t00]; omega
  have hlv : ∀ i, i < 4 → R i ≠ 0 → (fun x => if x = t then 0 else lv x) (R i) = 3 ∧ (fun x => if x = t then key else pos x) (R i) = 0 := fun i hi h0 => by
    obtain ⟨q1, q2, q3⟩ := ts.root hi h0
    have := htG _ q1
    show (if R i = t then 0 else lv (R i)) = 3 ∧ (if R i = t then key else pos (R i)) = 0
    rw [if_neg this, if_neg this]; exact ⟨q2, q3⟩
  have hc1 : Y1.σ.c = upd Y.σ.c t 1 := by rw [hY1]
  have he1 : Y1.σ.e = Y.σ.e := by rw [hY1]
  have hT1 : Y1.T = updX Y.T t s := by rw [hY1]
  have hu1 : usedTo (cOf Y1.σ.c) n ≤ usedTo (cOf Y.σ.c) n + 1 := usedTo_le_one n (t := t) fun x hx hp => by
    rw [hc1, ← cOf_upd _ t3] at hp
    unfold upd at hp
    rw [if_neg hx] at hp; exact hp
  obtain ⟨r, Y', Z', G', lv', pos', c1, c2, c3, c4, c5⟩ := Set_spec (n := n) (B := 4) (Z := Z) h g m u hn t00 b2 (hlv at_ hat) ⟨if_pos rfl, if_pos rfl⟩ hk (fun x hx => by
      rw [hc1] at hx
      unfold upd at hx
      by_cases e : x = t
      · subst e; exact ht
      · rw [if_neg e] at hx; exact ts.lt x hx) (exceptX_le R at_) (by omega) (by omega)
  obtain ⟨d1, d2, d3⟩ := ts_chg hat c2 (fun i hi _ h0 => hlv i hi h0) c3
  rw [he1] at c2 c4
  have hm : key % 16 ^ 3 = key := Nat.mod_eq_of_lt hk
  refine ⟨t, ht, ht0, htl, t3, r, Y', Z', G', lv', pos', c1, d1, fun i hi hne k => ?_, fun k => ?_, fun hz => ?_, fun k => ?_, fun i hi hne k => ?_, fun w hw => c5 w (by rw [hc1, hT1]; exact hw)⟩
  · rw [d2 i hi hne k]
    unfold treeF
    rw [he1, hT1]
    by_cases hz : Tri.get Y.σ.e 3 (R i) k = 0
    · rw [if_pos hz, if_pos hz]
    · rw [if_neg hz, if_neg hz, updX, if_neg (hgt i hi k hz)]
  · rw [d3 k, he1, hT1]
    unfold Tri.setF
    rw [hm]
    show (if (if k % 4096 = key then t else _) = 0 then none else some (updX Y.T t s (if k % 4096 = key then t else _))) = _
    by_cases e : k % 4096 = key
    · rw [if_pos e, if_pos e, if_neg t00, updX, if_pos rfl]
    · rw [if_neg e, if_neg e]
      unfold treeF
      by_cases hz : Tri.get Y.σ.e 3 (R at_) k = 0
      · rw [if_pos hz, if_pos hz]
      · rw [if_neg hz, if_neg hz, updX, if_neg (hgt at_ hat k hz)]
  · obtain ⟨q1, q2⟩ := c4 hz
    rw [hc1] at q1 q2
    refine ⟨q1, fun h2 k' h3 h4 => ?_⟩
    have hrt : R at_ ≠ t := fun e => by rw [e] at h2; omega
    have hgk := hgt at_ hat k' h4
    have := q2 (by unfold upd; rw [if_neg hrt]; exact h2) k' h3 h4
    rw [this]
    unfold upd
    rw [if_neg hgk]
  · rw [c2.get k]
    unfold Tri.setF
    rw [hm]
  · by_cases h0 : R i = 0
    · rw [h0, Tri.get_zero, Tri.get_zero]
    · have := (c2.keep.g (R i) (exceptX_pos R hi hne h0)).2.2.2 k
      have h3 : (if R i = t then 0 else lv (R i)) = 3 := (hlv i hi h0).1
      rw [h3, he1] at this
      exact this
theorem ts_cut (h g m : Nat) (u : Value) (Z : Int → Bool) (hn : n ≤ 200) (ts : TS n Y R G lv pos) (hat : at_ < 4) (hk : key < 4096) (hroom : usedTo (cOf Y.σ.c) n + 3 ≤ n) :
    ∃ r Y' Z' G' lv' pos', TS n Y' (updF R at_ r) G' lv' pos' ∧ SameBut Y Y' R at_ ∧ (∀ k, treeF Y'.σ.e Y'.T r k = if k % 4096 = key then none else treeF Y.σ.e Y.T (R at_) k) ∧ (∀ k, Tri.get Y'.σ.e 3 r k = if k % 4096 = key then 0 else Tri.get Y.σ.e 3 (R at_) k) ∧
      ∀ w, Hp w h g m n u (cOf Y.σ.c) Z Y.T → Calls Try.prog 28 #[.pointer (some ⟨h, 0, none⟩), .int .i64 (R at_ : Int), .int .i64 (key : Int)] w (HpG w h g m n u (cOf Y'.σ.c) Z' Y'.T (.tuple #[.int .i64 (r : Int), .int .i64 0])) := by
  have ok := ts.ok.congrE (ext1 := Tri.plus (exceptX R at_) (Tri.oneZ (R at_))) (rootsX_at R hat)
  obtain ⟨r, Y', Z', G', lv', pos', c1, c2, c3⟩ := Cut_spec (n := n) (B := 4) (Z := Z) h g m u hn ok (ts.rt at_ hat) hk ts.lt (exceptX_le R at_) (by omega) hroom
  obtain ⟨d1, d2, d3⟩ := ts_chg hat c1 (fun i hi _ h0 => ts.rt i hi h0) c2
  have hm : key % 16 ^ 3 = key := Nat.mod_eq_of_lt hk
  refine ⟨r, Y', Z', G', lv', pos', d1, d2, fun k => ?_, fun k => by rw [c1.get k]; unfold Tri.setF; rw [hm], c3⟩
  rw [d3 k]
  unfold Tri.setF
  rw [hm]
  show (if (if k % 4096 = key then 0 else _) = 0 then none else some (Y.T (if k % 4096 = key then 0 else _))) = _
  by_cases e : k % 4096 = key
  · rw [if_pos e, if_pos e, if_pos rfl]
  · rw [if_neg e, if_neg e]; rfl
theorem ts_clip (h g m : Nat) (u : Value) (Z : Int → Bool) (hn : n ≤ 200) (ts : TS n Y R G lv pos) (hat : at_ < 4) (hk : key ≤ 4096) (hroom : usedTo (cOf Y.σ.c) n + 6 ≤ n) :
    ∃ r Y' Z' G' lv' pos', TS n Y' (updF R at_ r) G' lv' pos' ∧ SameBut Y Y' R at_ ∧ (∀ k, treeF Y'.σ.e Y'.T r k = if key ≤ k % 4096 then none else treeF Y.σ.e Y.T (R at_) k) ∧
      ∀ w, Hp w h g m n u (cOf Y.σ.c) Z Y.T → Calls Try.prog 33 #[.pointer (some ⟨h, 0, none⟩), .int .i64 (R at_ : Int), .int .i64 (key : Int)] w (HpG w h g m n u (cOf Y'.σ.c) Z' Y'.T (.tuple #[.int .i64 (r : Int), .int .i64 0])) := by
  have ok := ts.ok.congrE (ext1 := Tri.plus (exceptX R at_) (Tri.oneZ (R at_))) (rootsX_at R hat)
  obtain ⟨r, Y', Z', G', lv', pos', c1, c2, c3⟩ := Clip_spec (n := n) (B := 4) h g m u Z hn ok (ts.rt at_ hat) ts.lt (exceptX_le R at_) (by omega) hk hroom
  obtain ⟨d1, d2, d3⟩ := ts_chg hat c1 (fun i hi _ h0 => ts.rt i hi h0) c2
  refine ⟨r, Y', Z', G', lv', pos', d1, d2, fun k => ?_, c3⟩
  rw [d3 k]
  show (if (if key ≤ k % 4096 then 0 else _) = 0 then none else some (Y.T (if key ≤ k % 4096 then 0 else _))) = _
  by_cases e : key ≤ k % 4096
  · rw [if_pos e, if_pos e, if_pos rfl]
  · rw [if_neg e, if_neg e]; rfl
theorem ts_drop (h g m : Nat) (u : Value) (Z : Int → Bool) (ts : TS n Y R G lv pos) (hat : at_ < 4) :
    ∃ Y' G', TS n Y' (updF R at_ 0) G' lv pos ∧ SameBut Y Y' R at_ ∧ Y'.T = Y.T ∧ Y'.σ.e = Y.σ.e ∧
      ∀ w, Hp w h g m n u (cOf Y.σ.c) Z Y.T → Calls Try.prog 14 #[.pointer (some ⟨h, 0, none⟩), .int .i64 (R at_ : Int)] w (HpG w h g m n u (cOf Y'.σ.c) Z Y'.T (.int .i64 0)) := by
  have ok := ts.ok.congrE (ext1 := Tri.plus (exceptX R at_) (Tri.oneZ (R at_))) (rootsX_at R hat)
  obtain ⟨Y', G', c1, c2⟩ := Drop_spec h g m n u Z ok (fun h0 => (ts.rt at_ hat h0).1) ts.lt
  refine ⟨Y', G', ⟨c1.ok.congrE fun x => ?_, fun i hi h0 => ?_, fun x hx => ts.lt x (c1.c x hx)⟩, fun i hi hne k => ?_, c1.t, c1.e, c2⟩
  · have := rootsX_split R hat 0 x
    rw [this]; unfold Tri.plus; rw [Tri.oneZ_zero]; rfl
  · by_cases e : i = at_
    · subst e; rw [updF_same] at h0; exact absurd rfl h0
    · rw [updF_other e] at h0 ⊢; exact ts.rt i hi h0
  · unfold treeF; rw [c1.e, c1.t]
theorem ts_inc (ts : TS n Y R G lv pos) (hat : at_ < 4) {r : Nat} (h0 : R at_ = 0) {j : Nat} (hj : j < 4) (hr : R j = r) (hr0 : r ≠ 0) :
    TS n ⟨⟨upd Y.σ.c r (Y.σ.c r + 1), Y.σ.e⟩, Y.T⟩ (updF R at_ r) G lv pos ∧ 3 ≤ r ∧ r < n ∧ 0 < Y.σ.c r ∧ Y.σ.c r < 255 := by
  subst hr
  obtain ⟨q1, q2, q3⟩ := ts.root hj hr0
  have hc0 := (ts.ok.i.all _).2 (.inl q1)
  have hb := ok_count ts.ok (rootsX_le R) (R j)
  have hi := ts.ok.i.inc (σ' := ⟨upd Y.σ.c (R j) (Y.σ.c (R j) + 1), Y.σ.e⟩) q1 rfl (fun x => by
    show upd Y.σ.c (R j) (Y.σ.c (R j) + 1) x = _
    unfold upd
    by_cases e : x = R j
    · rw [if_pos e, e, Tri.one_same]
    · rw [if_neg e, Tri.one_other e]; rfl)
  refine ⟨⟨⟨?_, fun x hx hl => ts.ok.t x hx hl⟩, fun i hi h1 => ?_, fun x hx => ?_⟩, (ts.ok.i.rng _ (.inl q1)).1, ts.lt _ hc0, hc0, by omega⟩
  · have e : (fun x => rootsX R x + Tri.one (R j) x) = rootsX (updF R at_ (R j)) := by
      funext x
      have e1 := rootsX_split R hat (R j) x
      have e2 := rootsX_at R hat x
      rw [h0] at e2
      unfold Tri.plus at e1 e2
      rw [Tri.oneZ_zero] at e2
      rw [e1, e2, Tri.oneZ_pos hr0]; rfl
    rw [← e]; exact hi
  · by_cases e : i = at_
    · subst e; rw [updF_same]; exact ⟨q2, q3⟩
    · rw [updF_other e] at h1 ⊢; exact ts.rt i hi h1
  · have hx : 0 < upd Y.σ.c (R j) (Y.σ.c (R j) + 1) x := hx
    unfold upd at hx
    by_cases e : x = R j
    · rw [e]; exact ts.lt _ hc0
    · rw [if_neg e] at hx; exact ts.lt x hx
end
end Go.Proofs.Ytlbjfigdocbffaa
