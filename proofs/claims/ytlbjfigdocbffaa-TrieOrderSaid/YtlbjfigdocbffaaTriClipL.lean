/- trie: Clip, over the maths. -/
import Derived.Test.YtlbjfigdocbffaaTriClip
namespace Go.Proofs.Ytlbjfigdocbffaa
open Go.RowKit
set_option linter.unusedVariables false
set_option linter.unusedSimpArgs false

section
variable {σ : Tri.St} {ext : Nat → Nat} {G H : Nat → Prop} {lv pos : Nat → Nat}
/-- No node is empty: some key leads on from it. -/
theorem some_key (hi : Tri.Inv σ ext G H lv pos) : ∀ l b, G b → lv b = l → ∃ k, k < 16 ^ l ∧ Tri.get σ.e l b k ≠ 0
  | 0, b, hb, _ => ⟨0, by simp, hi.ne0 (.inl hb)⟩
  | l + 1, b, hb, hl => by
    obtain ⟨i, h1, h2⟩ := hi.some_ b hb (by omega)
    obtain ⟨q1, q2, _⟩ := hi.int b i hb (by omega) h1 h2
    obtain ⟨k, k1, k2⟩ := some_key hi l _ q1 (by omega)
    have hp : 0 < 16 ^ l := Nat.pos_of_ne_zero (by simp)
    have e1 : (16 ^ l * i + k) / 16 ^ l % 16 = i := by rw [Nat.mul_add_div hp, Nat.div_eq_of_lt k1, Nat.add_zero, Nat.mod_eq_of_lt h1]
    refine ⟨16 ^ l * i + k, ?_, ?_⟩
    · have : 16 ^ l * i ≤ 16 ^ l * 15 := Nat.mul_le_mul_left _ (by omega)
      rw [Nat.pow_succ]; omega
    · rw [Tri.get_succ (hi.ne0 (.inl hb)), e1, Tri.get_mod σ.e l _ (show (16 ^ l * i + k) % 16 ^ l = k % 16 ^ l by rw [Nat.mul_add_mod])]
      exact k2
/-- What is left of the way to a key that is gone is common with the way to the next one. -/
theorem way_next (hi : Tri.Inv σ ext G H lv pos) : ∀ l b k1 k2, (b ≠ 0 → G b ∧ lv b = l) → k2 % 16 ^ l ≤ k1 % 16 ^ l → (∀ k, k2 % 16 ^ l < k % 16 ^ l → Tri.get σ.e l b k = 0) → pdn σ.c σ.e l b k1 = exn σ.e l b k1 → exn σ.e l b k1 ≤ pdn σ.c σ.e l b k2
  | 0, _, _, _, _, _, _, _ => Nat.le_refl _
  | l + 1, b, k1, k2, hb, hle, hno, hpe => by
    by_cases h0 : b = 0
    · subst h0; rw [exn_zero, pdn_zero]; exact Nat.le_refl _
    · obtain ⟨hG, hl⟩ := hb h0
      have hp : 0 < 16 ^ l := Nat.pos_of_ne_zero (by simp)
      have hc : σ.c b = 1 := by
        apply Classical.byContradiction
        intro hc
        rw [pdn_many k1 hc, exn_succ k1 h0] at hpe
        omega
      rw [pdn_succ k1 h0 hc, exn_succ k1 h0] at hpe
      rw [exn_succ k1 h0, pdn_succ k2 h0 hc]
      rw [Nat.mod_pow_succ, Nat.mod_pow_succ] at hle
      have r1 : k1 % 16 ^ l < 16 ^ l := Nat.mod_lt _ hp
      have r2 : k2 % 16 ^ l < 16 ^ l := Nat.mod_lt _ hp
      have d1 : k1 / 16 ^ l % 16 < 16 := Nat.mod_lt _ (by omega)
      have d2 : k2 / 16 ^ l % 16 < 16 := Nat.mod_lt _ (by omega)
      have hkid : σ.e b (k1 / 16 ^ l % 16) ≠ 0 → G (σ.e b (k1 / 16 ^ l % 16)) ∧ lv (σ.e b (k1 / 16 ^ l % 16)) = l := fun hne => by
        obtain ⟨q1, q2, _⟩ := hi.int b _ hG (by omega) d1 hne
        exact ⟨q1, by omega⟩
      have hdd : k2 / 16 ^ l % 16 ≤ k1 / 16 ^ l % 16 := by
        rcases Nat.lt_or_ge (k1 / 16 ^ l % 16) (k2 / 16 ^ l % 16) with h | h
        · have : 16 ^ l * (k1 / 16 ^ l % 16 + 1) ≤ 16 ^ l * (k2 / 16 ^ l % 16) := Nat.mul_le_mul_left _ h
          rw [Nat.mul_add] at this
          omega
        · exact h
      by_cases hd : k2 / 16 ^ l % 16 = k1 / 16 ^ l % 16
      · rw [hd] at hle ⊢
        have := way_next hi l (σ.e b (k1 / 16 ^ l % 16)) k1 k2 hkid (by omega) (fun k hk => ?_) (by omega)
        · omega
        · have rk : k % 16 ^ l < 16 ^ l := Nat.mod_lt _ hp
          have e1 : (16 ^ l * (k1 / 16 ^ l % 16) + k % 16 ^ l) / 16 ^ l % 16 = k1 / 16 ^ l % 16 := by rw [Nat.mul_add_div hp, Nat.div_eq_of_lt rk, Nat.add_zero, Nat.mod_eq_of_lt d1]
          have e2 : (16 ^ l * (k1 / 16 ^ l % 16) + k % 16 ^ l) % 16 ^ l = k % 16 ^ l := by rw [Nat.mul_add_mod, Nat.mod_mod]
          have := hno (16 ^ l * (k1 / 16 ^ l % 16) + k % 16 ^ l) (by
            rw [Nat.mod_pow_succ, Nat.mod_pow_succ, e1, e2, hd]; omega)
          rw [Tri.get_succ h0, e1, Tri.get_mod σ.e l _ e2] at this
          exact this
      · have hz : σ.e b (k1 / 16 ^ l % 16) = 0 := by
          apply Classical.byContradiction
          intro hne
          obtain ⟨q1, q2⟩ := hkid hne
          obtain ⟨k, hk1, hk2⟩ := some_key hi l _ q1 q2
          have e1 : (16 ^ l * (k1 / 16 ^ l % 16) + k) / 16 ^ l % 16 = k1 / 16 ^ l % 16 := by rw [Nat.mul_add_div hp, Nat.div_eq_of_lt hk1, Nat.add_zero, Nat.mod_eq_of_lt d1]
          have e2 : (16 ^ l * (k1 / 16 ^ l % 16) + k) % 16 ^ l = k % 16 ^ l := by rw [Nat.mul_add_mod]
          have := hno (16 ^ l * (k1 / 16 ^ l % 16) + k) (by
            rw [Nat.mod_pow_succ, Nat.mod_pow_succ, e1, e2]
            have : 16 ^ l * (k2 / 16 ^ l % 16 + 1) ≤ 16 ^ l * (k1 / 16 ^ l % 16) := Nat.mul_le_mul_left _ (by omega)
            rw [Nat.mul_add] at this
            omega)
          rw [Tri.get_succ h0, e1, Tri.get_mod σ.e l _ e2] at this
          exact hk2 this
        rw [hz, exn_zero]; omega
end
/-- The key ahead, from behind. -/
def kap (L : List (Nat × Nat)) : Nat → Nat
  | 0 => 4096
  | j + 1 => (fromEnd L j).1
/-- A list of the keys at which f is not 0. -/
structure KeysOf (f : Nat → Nat) (L : List (Nat × Nat)) : Prop where
  s : L.Pairwise fun p q => p.1 < q.1
  b : ∀ p ∈ L, p.1 < 4096 ∧ f p.1 ≠ 0
  c : ∀ k, k < 4096 → f k ≠ 0 → ∃ p ∈ L, p.1 = k
theorem fm_pair {F : Nat → Option (Nat × Nat)} (hF : ∀ k p, F k = some p → p.1 = k) : ∀ l : List Nat, l.Pairwise (· < ·) → (l.filterMap F).Pairwise fun p q => p.1 < q.1
  | [], _ => by simp
  | a :: l, h => by
    obtain ⟨h1, h2⟩ := List.pairwise_cons.1 h
    have ih := fm_pair hF l h2
    rw [List.filterMap_cons]
    cases hq : F a with
    | none => exact ih
    | some p =>
      refine List.pairwise_cons.2 ⟨fun q hq2 => ?_, ih⟩
      obtain ⟨c, hc, hqc⟩ := List.mem_filterMap.1 hq2
      rw [hF a p hq, hF c q hqc]
      exact h1 c hc
theorem keys_of (e : Nat → Nat → Nat) (r : Nat) : KeysOf (Tri.get e 3 r) (pairsL e 3 r 0) := by
  rw [pairsL_range]
  have h1 : ∀ k p, (if Tri.get e 3 r k = 0 then none else some (0 * 16 ^ 3 + k, Tri.get e 3 r k)) = some p → p.1 = k ∧ Tri.get e 3 r k ≠ 0 := fun k p h => by
    by_cases z : Tri.get e 3 r k = 0
    · rw [if_pos z] at h; cases h
    · rw [if_neg z] at h
      injection h with h
      rw [← h]; exact ⟨by simp, z⟩
  refine ⟨fm_pair (fun k p h => (h1 k p h).1) _ List.pairwise_lt_range, fun p hp => ?_, fun k hk hne => ?_⟩
  · obtain ⟨k, hk, h2⟩ := List.mem_filterMap.1 hp
    obtain ⟨h3, h4⟩ := h1 k p h2
    rw [h3]
    exact ⟨by simpa using hk, h4⟩
  · refine ⟨(k, Tri.get e 3 r k), List.mem_filterMap.2 ⟨k, by simpa using hk, by rw [if_neg hne]; simp⟩, rfl⟩
section
variable {f : Nat → Nat} {L : List (Nat × Nat)}
theorem fromEnd_get {j : Nat} (hj : j < L.length) : fromEnd L j = L[L.length - 1 - j]'(by omega) := by
  unfold fromEnd
  rw [List.getD_eq_getElem?_getD, List.getElem?_eq_getElem (by omega)]; rfl
theorem KeysOf.lt (h : KeysOf f L) {i j : Nat} (hi : i < j) (hj : j < L.length) : (L[i]'(by omega)).1 < L[j].1 := List.pairwise_iff_getElem.1 h.s i j (by omega) hj hi
theorem KeysOf.k1 (h : KeysOf f L) {j : Nat} (hj : j < L.length) : (fromEnd L j).1 < kap L j ∧ f (fromEnd L j).1 ≠ 0 ∧ (fromEnd L j).1 < 4096 := by
  have h1 := h.b (fromEnd L j) (by rw [fromEnd_get hj]; exact List.getElem_mem _)
  refine ⟨?_, h1.2, h1.1⟩
  cases j with
  | zero => exact h1.1
  | succ j =>
    show _ < (fromEnd L j).1
    rw [fromEnd_get hj, fromEnd_get (show j < L.length by omega)]
    exact h.lt (by omega) (by omega)
theorem KeysOf.k2 (h : KeysOf f L) {j : Nat} (hj : j < L.length) : ∀ k, (fromEnd L j).1 < k → k < kap L j → f k = 0 := fun k h1 h2 => by
  apply Classical.byContradiction
  intro hne
  have h4 : kap L j ≤ 4096 := by
    cases j with
    | zero => exact Nat.le_refl _
    | succ j => have := (h.k1 (show j < L.length by omega)).2.2; show (fromEnd L j).1 ≤ 4096; omega
  obtain ⟨p, hp, rfl⟩ := h.c k (by omega) hne
  obtain ⟨i, hi, rfl⟩ := List.getElem_of_mem hp
  rw [fromEnd_get hj] at h1
  by_cases hq : i ≤ L.length - 1 - j
  · by_cases e : i = L.length - 1 - j
    · subst e; omega
    · have := h.lt (show i < L.length - 1 - j by omega) (by omega)
      omega
  · cases j with
    | zero => omega
    | succ j =>
      have h2 : L[i].1 < (fromEnd L j).1 := h2
      rw [fromEnd_get (show j < L.length by omega)] at h2
      by_cases e : i = L.length - 1 - j
      · subst e; omega
      · have := h.lt (show L.length - 1 - j < i by omega) hi
        omega
theorem KeysOf.stop (h : KeysOf f L) {size : Nat} (hs : size ≤ 4096) : ∃ J, J ≤ L.length ∧ (∀ j, j < J → size ≤ (fromEnd L j).1) ∧ (J < L.length → (fromEnd L J).1 < size) ∧ size ≤ kap L J ∧ ∀ k, size ≤ k → k < kap L J → f k = 0 := by
  have key : ∀ d, d ≤ L.length → ∃ J, J ≤ d ∧ (∀ j, j < J → size ≤ (fromEnd L j).1) ∧ (J < d → (fromEnd L J).1 < size) := by
    intro d
    induction d with
    | zero => intro _; exact ⟨0, Nat.le_refl _, fun j hj => absurd hj (Nat.not_lt_zero _), fun hz => absurd hz (Nat.not_lt_zero _)⟩
    | succ d ih =>
      intro hd
      obtain ⟨J, j1, j2, j3⟩ := ih (by omega)
      by_cases e : J = d
      · by_cases q : size ≤ (fromEnd L J).1
        · exact ⟨J + 1, by omega, fun j hj => by
            by_cases z : j = J
            · subst z; exact q
            · exact j2 j (by omega), fun hz => by omega⟩
        · exact ⟨J, by omega, j2, fun _ => by omega⟩
      · exact ⟨J, by omega, j2, fun _ => j3 (by omega)⟩
  obtain ⟨J, j1, j2, j3⟩ := key L.length (Nat.le_refl _)
  have j4 : size ≤ kap L J := by
    cases J with
    | zero => exact hs
    | succ J => exact j2 J (by omega)
  refine ⟨J, j1, j2, j3, j4, fun k hk1 hk2 => ?_⟩
  by_cases hJ : J < L.length
  · exact h.k2 hJ k (by have := j3 hJ; omega) hk2
  · apply Classical.byContradiction
    intro hne
    have h4 : kap L J ≤ 4096 := by
      cases J with
      | zero => exact Nat.le_refl _
      | succ J => have := (h.k1 (show J < L.length by omega)).2.2; show (fromEnd L J).1 ≤ 4096; omega
    obtain ⟨p, hp, rfl⟩ := h.c k (by omega) hne
    obtain ⟨i, hi, rfl⟩ := List.getElem_of_mem hp
    cases J with
    | zero => omega
    | succ J =>
      have hk2 : L[i].1 < (fromEnd L J).1 := hk2
      rw [fromEnd_get (show J < L.length by omega)] at hk2
      by_cases e : i = L.length - 1 - J
      · subst e; omega
      · have := h.lt (show L.length - 1 - J < i by omega) hi
        omega
end
section
variable {h g m n : Nat} {u : Value} {Y0 : Tri.TW ByteArray} {ext0 : Nat → Nat} {G0 H : Nat → Prop} {lv0 pos0 : Nat → Nat} {r0 B : Nat}
/-- What holds when the keys from one on are cut. -/
structure CS (n : Nat) (Y0 : Tri.TW ByteArray) (r0 : Nat) (ext0 : Nat → Nat) (G0 H : Nat → Prop) (lv0 pos0 : Nat → Nat) (κ : Nat) (Y : Tri.TW ByteArray) (r : Nat) (G : Nat → Prop) (lv pos : Nat → Nat) : Prop where
  chg : Tri.Chg ntext Y0 Y ext0 G0 H lv0 pos0 G lv pos 3 0 r fun k => if κ ≤ k % 4096 then 0 else Tri.get Y0.σ.e 3 r0 k
  lt : ∀ x, 0 < Y.σ.c x → x < n
  room : (κ = 4096 ∧ usedTo (cOf Y.σ.c) n ≤ usedTo (cOf Y0.σ.c) n) ∨ (κ < 4096 ∧ usedTo (cOf Y.σ.c) n ≤ usedTo (cOf Y0.σ.c) n + exn Y.σ.e 3 r κ ∧ pdn Y.σ.c Y.σ.e 3 r κ = exn Y.σ.e 3 r κ)
theorem cs_step (h g m : Nat) (u : Value) (hn : n ≤ 200) (hB : ∀ x, ext0 x ≤ B) (hB2 : B ≤ 17) (hroom : usedTo (cOf Y0.σ.c) n + 6 ≤ n) {κ κ' : Nat} {Y : Tri.TW ByteArray} {r : Nat} {G : Nat → Prop} {lv pos : Nat → Nat} (Z : Int → Bool)
    (cs : CS n Y0 r0 ext0 G0 H lv0 pos0 κ Y r G lv pos) (h1 : κ' < κ) (h2 : Tri.get Y0.σ.e 3 r0 κ' ≠ 0) (h3 : ∀ k, κ' < k → k < κ → Tri.get Y0.σ.e 3 r0 k = 0) (h4 : κ' < 4096) :
    ∃ Y' Z' r' G' lv' pos', CS n Y0 r0 ext0 G0 H lv0 pos0 κ' Y' r' G' lv' pos' ∧ ∀ w, Hp w h g m n u (cOf Y.σ.c) Z Y.T → Calls Try.prog 28 #[.pointer (some ⟨h, 0, none⟩), .int .i64 (r : Int), .int .i64 (κ' : Int)] w (HpG w h g m n u (cOf Y'.σ.c) Z' Y'.T (.tuple #[.int .i64 (r' : Int), .int .i64 0])) := by
  have hg : ∀ k, Tri.get Y.σ.e 3 r k = if κ ≤ k % 4096 then 0 else Tri.get Y0.σ.e 3 r0 k := cs.chg.get
  have hk' : κ' % 4096 = κ' := Nat.mod_eq_of_lt h4
  have hne : Tri.get Y.σ.e 3 r κ' ≠ 0 := by rw [hg, hk', if_neg (by omega)]; exact h2
  have hex : exn Y.σ.e 3 r κ ≤ 3 := exn_le _ _ _ _
  have hus : usedTo (cOf Y.σ.c) n ≤ usedTo (cOf Y0.σ.c) n + 3 := by rcases cs.room with ⟨_, q⟩ | ⟨_, q, _⟩ <;> omega
  obtain ⟨r', Y', Z', G', lv', pos', c1, c2, ⟨c3, c4⟩, c5⟩ := Cut_room (n := n) (B := B) (Z := Z) h g m u hn cs.chg.ok cs.chg.at_ h4 cs.lt hB hB2 (by omega) hne
  have hm3 : ∀ k, k % 16 ^ 3 = k % 4096 := fun k => rfl
  refine ⟨Y', Z', r', G', lv', pos', ⟨⟨c1.ok, cs.chg.keep.trans c1.keep (fun _ z => z), c1.at_, fun k => ?_⟩, c2, .inr ⟨h4, ?_, c4⟩⟩, c5⟩
  · rw [c1.get k]
    unfold Tri.setF
    rw [hm3, hm3, hk', hg]
    by_cases e1 : k % 4096 = κ'
    · rw [if_pos e1, if_pos (by omega)]
    · rw [if_neg e1]
      by_cases e2 : κ ≤ k % 4096
      · rw [if_pos e2, if_pos (by omega)]
      · rw [if_neg e2]
        by_cases e3 : κ' ≤ k % 4096
        · rw [if_pos e3, ← h3 (k % 4096) (by omega) (by omega)]
          exact Tri.get_mod Y0.σ.e 3 r0 (by rw [hm3, hm3, Nat.mod_mod])
        · rw [if_neg e3]
  · rcases cs.room with ⟨_, q⟩ | ⟨q0, q, q2⟩
    · omega
    · have hG : r ≠ 0 → G r ∧ lv r = 3 := fun h0 => ⟨cs.chg.ok.i.ex r (by unfold Tri.plus; rw [Tri.oneZ_pos h0, Tri.one_same]; omega), (cs.chg.at_ h0).1⟩
      have := way_next cs.chg.ok.i 3 r κ κ' hG (by rw [hm3, hm3, hk', Nat.mod_eq_of_lt q0]; omega) (fun k hk => by
        rw [hm3, hm3, hk'] at hk
        rw [hg]
        by_cases e2 : κ ≤ k % 4096
        · rw [if_pos e2]
        · rw [if_neg e2, ← h3 (k % 4096) hk (by omega)]
          exact Tri.get_mod Y0.σ.e 3 r0 (by rw [hm3, hm3, Nat.mod_mod])) q2
      omega
theorem Clip_spec (h g m : Nat) (u : Value) (Z : Int → Bool) {size : Nat} (hn : n ≤ 200) (ok : Tri.Ok ntext Y0 (Tri.plus ext0 (Tri.oneZ r0)) G0 H lv0 pos0) (hr : r0 ≠ 0 → lv0 r0 = 3 ∧ pos0 r0 = 0) (hlt : ∀ x, 0 < Y0.σ.c x → x < n) (hB : ∀ x, ext0 x ≤ B) (hB2 : B ≤ 17) (hsz : size ≤ 4096) (hroom : usedTo (cOf Y0.σ.c) n + 6 ≤ n) :
    ∃ r Y Z' G lv pos, Tri.Chg ntext Y0 Y ext0 G0 H lv0 pos0 G lv pos 3 0 r (fun k => if size ≤ k % 4096 then 0 else Tri.get Y0.σ.e 3 r0 k) ∧ (∀ x, 0 < Y.σ.c x → x < n) ∧
      ∀ w, Hp w h g m n u (cOf Y0.σ.c) Z Y0.T → Calls Try.prog 33 #[.pointer (some ⟨h, 0, none⟩), .int .i64 (r0 : Int), .int .i64 (size : Int)] w (HpG w h g m n u (cOf Y.σ.c) Z' Y.T (.tuple #[.int .i64 (r : Int), .int .i64 0])) := by
  have hm3 : ∀ k, k % 16 ^ 3 = k % 4096 := fun k => rfl
  have hr2 : r0 ≠ 0 → G0 r0 ∧ lv0 r0 = 3 := fun h0 => ⟨ok.i.ex r0 (by unfold Tri.plus; rw [Tri.oneZ_pos h0, Tri.one_same]; omega), (hr h0).1⟩
  obtain ⟨L, hL⟩ : ∃ L, L = pairsL Y0.σ.e 3 r0 0 := ⟨_, rfl⟩
  have hK : KeysOf (Tri.get Y0.σ.e 3 r0) L := by rw [hL]; exact keys_of _ _
  obtain ⟨J, j1, j2, j3, j4, j5⟩ := hK.stop hsz
  have cs0 : CS n Y0 r0 ext0 G0 H lv0 pos0 (kap L 0) Y0 r0 G0 lv0 pos0 := by
    refine ⟨⟨ok, ⟨fun x hx => ⟨ok.i.ex x (by unfold Tri.plus; omega), rfl, rfl, fun _ => rfl⟩, fun y hy hl => ⟨hy, hl, rfl, rfl⟩, fun _ _ => ⟨rfl, rfl⟩⟩, hr, fun k => ?_⟩, hlt, .inl ⟨rfl, Nat.le_refl _⟩⟩
    show _ = if 4096 ≤ k % 4096 then 0 else _
    rw [if_neg (by omega)]
  have hseq : ∀ d j (Y : Tri.TW ByteArray) (Z : Int → Bool) (r : Nat) (G : Nat → Prop) (lv pos : Nat → Nat), j + d = J → CS n Y0 r0 ext0 G0 H lv0 pos0 (kap L j) Y r G lv pos →
      ∃ (Ys : Nat → Tri.TW ByteArray) (Zs : Nat → Int → Bool) (rs : Nat → Nat) (G' : Nat → Prop) (lv' pos' : Nat → Nat), Ys j = Y ∧ Zs j = Z ∧ rs j = r ∧ CS n Y0 r0 ext0 G0 H lv0 pos0 (kap L J) (Ys J) (rs J) G' lv' pos' ∧
        ∀ i, j ≤ i → i < J → ∀ W, Hp W h g m n u (cOf (Ys i).σ.c) (Zs i) (Ys i).T → Calls Try.prog 28 #[.pointer (some ⟨h, 0, none⟩), .int .i64 (rs i : Int), .int .i64 ((fromEnd L i).1 : Int)] W (HpG W h g m n u (cOf (Ys (i + 1)).σ.c) (Zs (i + 1)) (Ys (i + 1)).T (.tuple #[.int .i64 (rs (i + 1) : Int), .int .i64 0])) := by
    intro d
    induction d with
    | zero =>
      intro j Y Z r G lv pos hj cs
      have : j = J := by omega
      subst this
      exact ⟨fun _ => Y, fun _ => Z, fun _ => r, G, lv, pos, rfl, rfl, rfl, cs, fun i h1 h2 => by omega⟩
    | succ d ih =>
      intro j Y Z r G lv pos hj cs
      have hjl : j < L.length := by omega
      obtain ⟨k1, k2, k3⟩ := hK.k1 hjl
      obtain ⟨Y', Z', r', G', lv', pos', cs', hc⟩ := cs_step h g m u hn hB hB2 hroom Z cs k1 k2 (hK.k2 hjl) k3
      obtain ⟨Ys, Zs, rs, G2, lv2, pos2, e1, e2, e3, cs2, hcs⟩ := ih (j + 1) Y' Z' r' G' lv' pos' (by omega) cs'
      refine ⟨fun i => if i = j then Y else Ys i, fun i => if i = j then Z else Zs i, fun i => if i = j then r else rs i, G2, lv2, pos2, if_pos rfl, if_pos rfl, if_pos rfl, ?_, fun i h1 h2 W hW => ?_⟩
      · show CS n Y0 r0 ext0 G0 H lv0 pos0 (kap L J) (if J = j then Y else Ys J) (if J = j then r else rs J) G2 lv2 pos2
        rw [if_neg (by omega), if_neg (by omega)]
        exact cs2
      · have n1 : ¬ (i + 1 = j) := by omega
        by_cases e : i = j
        · subst e
          simp only [if_pos, if_neg n1, e1, e2, e3] at hW ⊢
          exact hc W hW
        · simp only [if_neg e, if_neg n1] at hW ⊢
          exact hcs i (by omega) h2 W hW
  obtain ⟨Ys, Zs, rs, G', lv', pos', e1, e2, e3, cs, hc⟩ := hseq J 0 Y0 Z r0 G0 lv0 pos0 (by omega) cs0
  refine ⟨rs J, Ys J, Zs J, G', lv', pos', ⟨cs.chg.ok, cs.chg.keep, cs.chg.at_, fun k => ?_⟩, cs.lt, fun w hw => ?_⟩
  · rw [cs.chg.get k]
    by_cases q1 : kap L J ≤ k % 4096
    · rw [if_pos q1, if_pos (by omega)]
    · rw [if_neg q1]
      by_cases q2 : size ≤ k % 4096
      · rw [if_pos q2, ← j5 (k % 4096) q2 (by omega)]
        exact Tri.get_mod Y0.σ.e 3 r0 (by rw [hm3, hm3, Nat.mod_mod])
      · rw [if_neg q2]
  · have hlen : L.length ≤ 4096 := by rw [hL]; exact pairsL_len _ _ _ _
    have hp : ∀ W, Hp W h g m n u (cOf (Ys 0).σ.c) (Zs 0) (Ys 0).T → Calls Try.prog 34 #[.pointer (some ⟨h, 0, none⟩), .int .i64 (rs 0 : Int)] W (GivesP W L) := fun W hW => by
      rw [e1, e2] at hW
      rw [e3, hL]
      exact Pairs_spec ok hlt r0 hr2 W hW
    have := clip_of (w := w) (h := h) (g := g) (m := m) (n := n) (u := u) (Cs := fun i => cOf (Ys i).σ.c) (Zs := Zs) (Xs := fun i => (Ys i).T) (rs := rs) (by rw [e1, e2]; exact hw) hsz hlen hp j1 j2 j3 (fun j hj W hW => hc j (by omega) hj W hW)
    rw [e3] at this
    exact this
end
end Go.Proofs.Ytlbjfigdocbffaa
