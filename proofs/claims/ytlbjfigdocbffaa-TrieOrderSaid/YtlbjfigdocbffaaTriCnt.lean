/- trie: how many blocks are used, by what keys lead to (maths). -/
import Derived.Test.YtlbjfigdocbffaaTriState
namespace Go.Proofs.Ytlbjfigdocbffaa
open Go.RowKit
set_option linter.unusedVariables false
set_option linter.unusedSimpArgs false

theorem nodup_le2 : ∀ {l1 l2 : List Nat}, l1.Nodup → (∀ x ∈ l1, x ∈ l2) → l1.length ≤ l2.length
  | [], _, _, _ => Nat.zero_le _
  | a :: t, l2, h, hs => by
    obtain ⟨h1, h2⟩ := List.nodup_cons.1 h
    have ha := hs a (by simp)
    have := nodup_le2 (l1 := t) (l2 := l2.erase a) h2 fun x hx => (List.mem_erase_of_ne (fun e => h1 (by rw [← e]; exact hx))).2 (hs x (by simp [hx]))
    rw [List.length_erase_of_mem ha] at this
    have := List.length_pos_of_mem ha
    simp only [List.length_cons]; omega
def cntP (p : Nat → Bool) (n : Nat) : Nat := ((List.range n).filter p).length
theorem cntP_inj {p q : Nat → Bool} {n m : Nat} (f : Nat → Nat) (h : ∀ x, x < n → p x = true → f x < m ∧ q (f x) = true) (hi : ∀ x y, x < n → y < n → p x = true → p y = true → f x = f y → x = y) : cntP p n ≤ cntP q m := by
  unfold cntP
  rw [← List.length_map (f := f)]
  refine nodup_le2 ?_ fun z hz => ?_
  · unfold List.Nodup
    rw [List.pairwise_map]
    have h1 : ((List.range n).filter p).Pairwise (· ≠ ·) := (List.nodup_range (n := n)).filter p
    refine h1.imp_of_mem fun {a b} ha hb hne e => hne ?_
    have ha2 := List.mem_filter.1 ha
    have hb2 := List.mem_filter.1 hb
    exact hi a b (by simpa using ha2.1) (by simpa using hb2.1) ha2.2 hb2.2 e
  · obtain ⟨x, hx, rfl⟩ := List.mem_map.1 hz
    have hx2 := List.mem_filter.1 hx
    obtain ⟨h1, h2⟩ := h x (by simpa using hx2.1) hx2.2
    exact List.mem_filter.2 ⟨by simpa using h1, h2⟩
theorem cntP_congr {p q : Nat → Bool} {n : Nat} (h : ∀ x, x < n → p x = q x) : cntP p n = cntP q n := by
  unfold cntP
  congr 1
  refine List.filter_congr fun x hx => h x (by simpa using hx)
theorem used_cntP (C : Nat → Nat) (n : Nat) : usedTo C n = cntP (fun i => decide (0 < C i)) n := rfl
section
variable {σ : Tri.St} {ext : Nat → Nat} {G H : Nat → Prop} {lv pos : Nat → Nat}
theorem inv_parent (h : Tri.Inv σ ext G H lv pos) {x : Nat} (hx : G x) (he : ext x = 0) : ∃ p i, G p ∧ i < 16 ∧ σ.e p i = x ∧ lv x + 1 = lv p ∧ pos x = pos p * 16 + i := by
  have hc := (h.all x).2 (.inl hx)
  rw [h.cnt x hx] at hc
  obtain ⟨p, hp, hm⟩ := Tri.sumTo_pos 200 (show 0 < Tri.refs σ G lv x by omega)
  by_cases hg : G p ∧ 0 < lv p
  · rw [if_pos hg] at hm
    obtain ⟨i, hi, e2⟩ := Tri.mul_pos hm
    obtain ⟨k1, k2, k3⟩ := h.int p i hg.1 hg.2 hi (by rw [e2]; exact h.ne0 (.inl hx))
    rw [e2] at k2 k3
    exact ⟨p, i, hg.1, hi, e2, k2, k3⟩
  · rw [if_neg hg] at hm; omega
theorem lv_bound (lv : Nat → Nat) : ∀ n, ∃ M, ∀ i, i < n → lv i ≤ M
  | 0 => ⟨0, fun i hi => absurd hi (Nat.not_lt_zero _)⟩
  | n + 1 => by
    obtain ⟨M, hM⟩ := lv_bound lv n
    refine ⟨max M (lv n), fun i hi => ?_⟩
    by_cases e : i = n
    · subst e; omega
    · have := hM i (by omega); omega
theorem inv_top (h : Tri.Inv σ ext G H lv pos) {L : Nat} (hr : ∀ r, 0 < ext r → lv r = L) : ∀ x, G x → lv x ≤ L := fun x hx => by
  apply Classical.byContradiction
  intro hl
  have hch : ∀ d, ∃ y, G y ∧ lv y = lv x + d := by
    intro d
    induction d with
    | zero => exact ⟨x, hx, rfl⟩
    | succ d ih =>
      obtain ⟨y, h1, h2⟩ := ih
      have he : ext y = 0 := by
        apply Classical.byContradiction
        intro z
        have := hr y (Nat.pos_of_ne_zero z)
        omega
      obtain ⟨p, i, k1, _, _, k2, _⟩ := inv_parent h h1 he
      exact ⟨p, k1, by omega⟩
  obtain ⟨M, hM⟩ := lv_bound lv 200
  obtain ⟨y, h1, h2⟩ := hch (M + 1)
  have := hM y (h.rng y (.inl h1)).2
  omega
theorem inv_pos (h : Tri.Inv σ ext G H lv pos) {L : Nat} (hr : ∀ r, 0 < ext r → lv r = L ∧ pos r = 0) : ∀ d x, G x → lv x + d = L → pos x < 16 ^ d
  | 0, x, hx, hl => by
    by_cases he : 0 < ext x
    · rw [(hr x he).2]; simp
    · obtain ⟨p, i, k1, _, _, k2, _⟩ := inv_parent h hx (by omega)
      have := inv_top h (fun r hr' => (hr r hr').1) p k1
      omega
  | d + 1, x, hx, hl => by
    by_cases he : 0 < ext x
    · rw [(hr x he).2]; exact Nat.pos_of_ne_zero (by simp)
    · obtain ⟨p, i, k1, k2, _, k3, k4⟩ := inv_parent h hx (by omega)
      have := inv_pos h hr d p k1 (by omega)
      rw [k4, Nat.pow_succ]; omega
end
/-- The numbers of the places on the way to the keys at which f is not 0. -/
def offD (d : Nat) : Nat := if d = 0 then 0 else if d = 1 then 1 else if d = 2 then 17 else 273
noncomputable def wayP (f : Nat → Nat) (z : Nat) : Bool := @decide (∃ k d, k < 4096 ∧ d ≤ 3 ∧ f k ≠ 0 ∧ z = offD d + k / 16 ^ (3 - d)) (Classical.propDecidable _)
theorem wayP_iff (f : Nat → Nat) (z : Nat) : wayP f z = true ↔ ∃ k d, k < 4096 ∧ d ≤ 3 ∧ f k ≠ 0 ∧ z = offD d + k / 16 ^ (3 - d) := by
  unfold wayP; exact @decide_eq_true_iff _ (Classical.propDecidable _)
theorem offD_inj {d d' p p' : Nat} (h1 : d ≤ 3) (h2 : d' ≤ 3) (hp : p < 16 ^ d) (hp' : p' < 16 ^ d') (e : offD d + p = offD d' + p') : d = d' ∧ p = p' := by
  unfold offD at e
  rcases (show d = 0 ∨ d = 1 ∨ d = 2 ∨ d = 3 by omega) with rfl | rfl | rfl | rfl <;> rcases (show d' = 0 ∨ d' = 1 ∨ d' = 2 ∨ d' = 3 by omega) with rfl | rfl | rfl | rfl <;> simp at e hp hp' ⊢ <;> omega
theorem offD_lt {d p : Nat} (h1 : d ≤ 3) (hp : p < 16 ^ d) : offD d + p < 4369 := by
  unfold offD
  rcases (show d = 0 ∨ d = 1 ∨ d = 2 ∨ d = 3 by omega) with rfl | rfl | rfl | rfl <;> simp at hp ⊢ <;> omega
def unD (z : Nat) : Nat × Nat := if z < 1 then (0, z) else if z < 17 then (1, z - 1) else if z < 273 then (2, z - 17) else (3, z - 273)
theorem unD_eq {d p : Nat} (h1 : d ≤ 3) (hp : p < 16 ^ d) : unD (offD d + p) = (d, p) := by
  rcases (show d = 0 ∨ d = 1 ∨ d = 2 ∨ d = 3 by omega) with rfl | rfl | rfl | rfl
  · simp at hp; subst hp; rfl
  · simp at hp; rw [show offD 1 = 1 from rfl]; unfold unD; rw [if_neg (by omega), if_pos (by omega)]; simp
  · simp at hp; rw [show offD 2 = 17 from rfl]; unfold unD; rw [if_neg (by omega), if_neg (by omega), if_pos (by omega)]; simp
  · rw [show offD 3 = 273 from rfl]; unfold unD; rw [if_neg (by omega), if_neg (by omega), if_neg (by omega)]; simp
theorem div_lt {k d : Nat} (hk : k < 4096) (hd : d ≤ 3) : k / 16 ^ (3 - d) < 16 ^ d := by
  rcases (show d = 0 ∨ d = 1 ∨ d = 2 ∨ d = 3 by omega) with rfl | rfl | rfl | rfl <;> simp <;> omega
section
variable {n : Nat} {Y : Tri.TW ByteArray} {R : Nat → Nat} {G : Nat → Prop} {lv pos : Nat → Nat}
/-- The blocks of one tree alone. -/
theorem used_one (hn : n ≤ 200) (hn3 : 3 ≤ n) (ts : TS n Y R G lv pos) {a : Nat} (ha : a < 4) (hone : ∀ i, i < 4 → i ≠ a → R i = 0) : usedTo (cOf Y.σ.c) n = 3 + cntP (wayP (Tri.get Y.σ.e 3 (R a))) 4369 := by
  classical
  have hroot : ∀ r, 0 < rootsX R r → r = R a ∧ lv r = 3 ∧ pos r = 0 := fun r hr => by
    obtain ⟨i, hi, h2, h3⟩ := rootsX_some hr
    have e : i = a := Classical.byContradiction fun e => h3 (by rw [← h2]; exact hone i hi e)
    subst e
    have := ts.rt i hi (by rw [h2]; exact h3)
    rw [h2] at this
    exact ⟨h2.symm, this⟩
  have hr2 : ∀ r, 0 < rootsX R r → lv r = 3 ∧ pos r = 0 := fun r hr => (hroot r hr).2
  have hL := inv_top ts.ok.i (fun r hr => (hr2 r hr).1)
  have hreach : ∀ x, G x → Tri.walkTo Y.σ.e (R a) (3 - lv x) (pos x) = x ∧ pos x < 16 ^ (3 - lv x) := fun x hx => by
    have := hL x hx
    obtain ⟨r, h1, h2⟩ := ts.ok.i.reach hr2 hL (3 - lv x) x hx (by omega)
    rw [(hroot r h1).1] at h2
    exact ⟨h2, inv_pos ts.ok.i hr2 (3 - lv x) x hx (by omega)⟩
  have hsplit : usedTo (cOf Y.σ.c) n = 3 + cntP (fun x => decide (G x)) n := by
    have key : ∀ k, 3 ≤ k → k ≤ n → usedTo (cOf Y.σ.c) k = 3 + cntP (fun x => decide (G x)) k := by
      intro k
      induction k with
      | zero => intro h; omega
      | succ k ih =>
        intro h1 h2
        have hcs : cntP (fun x => decide (G x)) (k + 1) = cntP (fun x => decide (G x)) k + if G k then 1 else 0 := by
          unfold cntP
          rw [List.range_succ, List.filter_append]
          by_cases z : G k <;> simp [z]
        rw [used_succ, hcs]
        by_cases h3 : 3 ≤ k
        · rw [ih h3 (by omega), cOf_hi h3]
          have := ts.ok.i.all k
          by_cases z : G k
          · rw [if_pos z, if_pos (this.2 (.inl z))]; omega
          · rw [if_neg z, if_neg (fun y => (this.1 y).elim z (fun y : noH k => False.elim y))]; omega
        · obtain rfl : k = 2 := by omega
          have hG : ∀ x, x < 3 → ¬ G x := fun x hx z => by have := (ts.ok.i.rng x (.inl z)).1; omega
          have e0 : cntP (fun x => decide (G x)) 2 = 0 := by
            unfold cntP
            rw [List.length_eq_zero_iff, List.filter_eq_nil_iff]
            intro x hx
            simp at hx
            simp [hG x (by omega)]
          have e1 : usedTo (cOf Y.σ.c) 2 = 2 := by
            rw [used_succ, used_succ, cOf_lo (by omega), cOf_lo (by omega)]; rfl
          rw [e0, e1, cOf_lo (by omega), if_neg (hG 2 (by omega))]; rfl
    exact key n hn3 (Nat.le_refl _)
  rw [hsplit]
  refine congrArg (fun t => 3 + t) ?_
  refine Nat.le_antisymm (cntP_inj (fun x => offD (3 - lv x) + pos x) (fun x _ hx => ?_) (fun x y _ _ hx hy e => ?_)) (cntP_inj (fun z => Tri.walkTo Y.σ.e (R a) (unD z).1 (unD z).2) (fun z _ hz => ?_) (fun z y _ _ hz hy e => ?_))
  · have hG : G x := by simpa using hx
    obtain ⟨h1, h2⟩ := hreach x hG
    refine ⟨offD_lt (by omega) h2, (wayP_iff _ _).2 ?_⟩
    obtain ⟨k, k1, k2⟩ := some_key ts.ok.i (lv x) x hG rfl
    have hl := hL x hG
    have hp : 0 < 16 ^ lv x := Nat.pos_of_ne_zero (by simp)
    have e1 : (16 ^ lv x * pos x + k) / 16 ^ lv x = pos x := by rw [Nat.mul_add_div hp, Nat.div_eq_of_lt k1, Nat.add_zero]
    refine ⟨16 ^ lv x * pos x + k, 3 - lv x, ?_, by omega, ?_, ?_⟩
    · have h4 : 16 ^ lv x * (pos x + 1) ≤ 16 ^ lv x * 16 ^ (3 - lv x) := Nat.mul_le_mul_left _ h2
      rw [← Nat.pow_add, show lv x + (3 - lv x) = 3 by omega, Nat.mul_add] at h4
      omega
    · have := Tri.get_walk Y.σ.e (R a) (16 ^ lv x * pos x + k) (3 - lv x) (lv x)
      rw [show 3 - lv x + lv x = 3 by omega, e1, Nat.mod_eq_of_lt h2, h1] at this
      rw [this, Tri.get_mod Y.σ.e (lv x) x (show (16 ^ lv x * pos x + k) % 16 ^ lv x = k % 16 ^ lv x by rw [Nat.mul_add_mod])]
      exact k2
    · rw [show 3 - (3 - lv x) = lv x by omega, e1]
  · have hG : G x := by simpa using hx
    have hG' : G y := by simpa using hy
    obtain ⟨h1, h2⟩ := hreach x hG
    obtain ⟨h3, h4⟩ := hreach y hG'
    obtain ⟨e1, e2⟩ := offD_inj (by omega) (by omega) h2 h4 e
    rw [← h1, ← h3, e1, e2]
  · obtain ⟨k, d, h1, h2, h3, h4⟩ := (wayP_iff _ _).1 hz
    have hu := unD_eq h2 (div_lt h1 h2)
    rw [← h4] at hu
    simp only [hu]
    have hw := Tri.get_walk Y.σ.e (R a) k d (3 - d)
    rw [show d + (3 - d) = 3 by omega, Nat.mod_eq_of_lt (div_lt h1 h2)] at hw
    have hne : Tri.walkTo Y.σ.e (R a) d (k / 16 ^ (3 - d)) ≠ 0 := fun e => by rw [hw, e, Tri.get_zero] at h3; exact h3 rfl
    have hR0 : R a ≠ 0 := fun e => by rw [e, Tri.get_zero] at h3; exact h3 rfl
    obtain ⟨r1, r2, r3⟩ := ts.root ha hR0
    have hG := (ts.ok.i.walk_at r1 ⟨r2, r3⟩ d _ h2 (div_lt h1 h2) hne).1
    exact ⟨ts.lt _ ((ts.ok.i.all _).2 (.inl hG)), by simpa using hG⟩
  · obtain ⟨k, d, h1, h2, h3, h4⟩ := (wayP_iff _ _).1 hz
    obtain ⟨k', d', h1', h2', h3', h4'⟩ := (wayP_iff _ _).1 hy
    have hu := unD_eq h2 (div_lt h1 h2)
    rw [← h4] at hu
    have hu' := unD_eq h2' (div_lt h1' h2')
    rw [← h4'] at hu'
    simp only [hu, hu'] at e
    have hR0 : R a ≠ 0 := fun e => by rw [e, Tri.get_zero] at h3; exact h3 rfl
    obtain ⟨r1, r2, r3⟩ := ts.root ha hR0
    have hw := Tri.get_walk Y.σ.e (R a) k d (3 - d)
    rw [show d + (3 - d) = 3 by omega, Nat.mod_eq_of_lt (div_lt h1 h2)] at hw
    have hne : Tri.walkTo Y.σ.e (R a) d (k / 16 ^ (3 - d)) ≠ 0 := fun e => by rw [hw, e, Tri.get_zero] at h3; exact h3 rfl
    have hw' := Tri.get_walk Y.σ.e (R a) k' d' (3 - d')
    rw [show d' + (3 - d') = 3 by omega, Nat.mod_eq_of_lt (div_lt h1' h2')] at hw'
    have hne' : Tri.walkTo Y.σ.e (R a) d' (k' / 16 ^ (3 - d')) ≠ 0 := fun e => by rw [hw', e, Tri.get_zero] at h3'; exact h3' rfl
    have w1 := ts.ok.i.walk_at r1 ⟨r2, r3⟩ d _ h2 (div_lt h1 h2) hne
    have w2 := ts.ok.i.walk_at r1 ⟨r2, r3⟩ d' _ h2' (div_lt h1' h2') hne'
    rw [e] at w1
    have hd : d = d' := by omega
    subst hd
    rw [h4, h4']
    have := w1.2.2.symm.trans w2.2.2
    rw [this]
/-- In a single tree nothing has two references but the root. -/
theorem one_count (ts : TS n Y R G lv pos) {a : Nat} (ha : a < 4) (hone : ∀ i, i < 4 → i ≠ a → R i = 0) {x : Nat} (hx : G x) (hl : lv x < 3) : Y.σ.c x = 1 := by
  have hroot : ∀ r, 0 < rootsX R r → r = R a ∧ lv r = 3 ∧ pos r = 0 := fun r hr => by
    obtain ⟨i, hi, h2, h3⟩ := rootsX_some hr
    have e : i = a := Classical.byContradiction fun e => h3 (by rw [← h2]; exact hone i hi e)
    subst e
    have := ts.rt i hi (by rw [h2]; exact h3)
    rw [h2] at this
    exact ⟨h2.symm, this⟩
  have hr2 : ∀ r, 0 < rootsX R r → lv r = 3 ∧ pos r = 0 := fun r hr => (hroot r hr).2
  have hL := inv_top ts.ok.i (fun r hr => (hr2 r hr).1)
  have hc := (ts.ok.i.all x).2 (.inl hx)
  have he : rootsX R x = 0 := by
    apply Classical.byContradiction
    intro z
    have := (hr2 x (Nat.pos_of_ne_zero z)).1
    omega
  apply Classical.byContradiction
  intro hne
  obtain ⟨p, i, p1, p2, p3, p4, p5⟩ := inv_parent ts.ok.i hx he
  obtain ⟨q, j, q1, q2, q3, q4, q5⟩ := ts.ok.i.parent2 (p := p) hx (by omega) he
  obtain ⟨k1, k2, k3⟩ := ts.ok.i.int q j q2 q3 q4 (by rw [q5]; exact ts.ok.i.ne0 (.inl hx))
  rw [q5] at k2 k3
  have := hL p p1
  obtain ⟨r, a1, a2⟩ := ts.ok.i.reach hr2 hL (3 - lv p) p p1 (by omega)
  obtain ⟨r', b1, b2⟩ := ts.ok.i.reach hr2 hL (3 - lv q) q q2 (by have := hL q q2; omega)
  rw [(hroot r a1).1] at a2
  rw [(hroot r' b1).1] at b2
  refine q1 ?_
  rw [← a2, ← b2, show lv q = lv p by omega, show pos q = pos p by omega]
end
end Go.Proofs.Ytlbjfigdocbffaa
