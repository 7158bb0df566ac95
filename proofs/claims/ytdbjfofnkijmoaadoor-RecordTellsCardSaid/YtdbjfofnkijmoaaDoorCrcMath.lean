/- CRC-32C: plain mathematics, no program. -/
namespace Go.Proofs.YtdbjfofnkijmoaaDoor.Crc
/-- One step: a division by x. -/
def step (s : Nat) : Nat := s / 2 ^^^ (if s % 2 = 1 then 2197175160 else 0)
def steps : Nat → Nat → Nat
  | 0, s => s
  | n + 1, s => step (steps n s)
def byte (s b : Nat) : Nat := steps 8 (s ^^^ b)
def go (s : Nat) (l : List UInt8) : Nat := l.foldl (fun s b => byte s b.toNat) s
def fin (s : Nat) : Nat := s ^^^ 4294967295
def sum (l : List UInt8) : Nat := fin (go 4294967295 l)

theorem go_nil (s : Nat) : go s [] = s := rfl
theorem go_append (s : Nat) (a b : List UInt8) : go s (a ++ b) = go (go s a) b := List.foldl_append ..
theorem go_snoc (s : Nat) (a : List UInt8) (b : UInt8) : go s (a ++ [b]) = byte (go s a) b.toNat := by rw [go_append]; rfl
theorem steps_succ (n s : Nat) : steps (n + 1) s = step (steps n s) := rfl

theorem xor_lt {x y : Nat} (hx : x < 4294967296) (hy : y < 4294967296) : x ^^^ y < 4294967296 := Nat.xor_lt_two_pow (n := 32) hx hy
theorem step_lt {s : Nat} (h : s < 4294967296) : step s < 4294967296 := by
  unfold step
  refine xor_lt (by omega) ?_
  split <;> decide
theorem steps_lt {n s : Nat} (h : s < 4294967296) : steps n s < 4294967296 := by
  induction n with
  | zero => exact h
  | succ n ih => exact step_lt ih
theorem byte_lt {s b : Nat} (h : s < 4294967296) (hb : b < 256) : byte s b < 4294967296 := steps_lt (xor_lt h (by omega))
theorem go_lt {s : Nat} (h : s < 4294967296) : ∀ l : List UInt8, go s l < 4294967296 := by
  intro l
  induction l generalizing s with
  | nil => exact h
  | cons b l ih => exact ih (byte_lt h (UInt8.toNat_lt b))
theorem fin_lt {s : Nat} (h : s < 4294967296) : fin s < 4294967296 := xor_lt h (by decide)

/-! Sums of texts. -/
theorem half_xor (x y : Nat) : (x ^^^ y) / 2 = x / 2 ^^^ y / 2 := by
  have := Nat.shiftRight_xor_distrib (a := x) (b := y) (i := 1)
  simpa [Nat.shiftRight_eq_div_pow] using this
theorem odd_xor (x y : Nat) : (x ^^^ y) % 2 = (x % 2 + y % 2) % 2 := by
  have h := Nat.xor_mod_two_pow (a := x) (b := y) (n := 1)
  rw [Nat.pow_one] at h
  rw [h]
  rcases Nat.mod_two_eq_zero_or_one x with hx | hx <;> rcases Nat.mod_two_eq_zero_or_one y with hy | hy <;> rw [hx, hy] <;> decide
theorem xor4 (a b c d : Nat) : (a ^^^ b) ^^^ (c ^^^ d) = (a ^^^ c) ^^^ (b ^^^ d) := by
  rw [Nat.xor_assoc, ← Nat.xor_assoc b, Nat.xor_comm b, Nat.xor_assoc c, ← Nat.xor_assoc a]
theorem step_xor (x y : Nat) : step (x ^^^ y) = step x ^^^ step y := by
  unfold step
  rw [half_xor, odd_xor, xor4]
  congr 1
  rcases Nat.mod_two_eq_zero_or_one x with hx | hx <;> rcases Nat.mod_two_eq_zero_or_one y with hy | hy <;> rw [hx, hy] <;> decide
theorem steps_xor (n x y : Nat) : steps n (x ^^^ y) = steps n x ^^^ steps n y := by
  induction n with
  | zero => rfl
  | succ n ih => rw [steps_succ, steps_succ, steps_succ, ih, step_xor]
theorem byte_xor (s t a b : Nat) : byte (s ^^^ t) (a ^^^ b) = byte s a ^^^ byte t b := by
  unfold byte; rw [xor4, steps_xor]

/-! Unlike states stay unlike. -/
theorem step_top {s : Nat} (h : s < 4294967296) : step s / 2147483648 = s % 2 := by
  unfold step
  have e : ∀ x y : Nat, (x ^^^ y) / 2147483648 = x / 2147483648 ^^^ y / 2147483648 := fun x y => by
    have := Nat.shiftRight_xor_distrib (a := x) (b := y) (i := 31)
    simpa [Nat.shiftRight_eq_div_pow] using this
  rw [e, Nat.div_eq_of_lt (by omega : s / 2 < 2147483648)]
  rcases Nat.mod_two_eq_zero_or_one s with hs | hs <;> rw [hs] <;> decide
theorem step_zero {s : Nat} (h : s < 4294967296) (e : step s = 0) : s = 0 := by
  have ht := step_top h
  rw [e] at ht
  unfold step at e
  rw [if_neg (by omega), Nat.xor_zero] at e
  omega
theorem xor_eq_zero {x y : Nat} (h : x ^^^ y = 0) : x = y := by
  have : x ^^^ y ^^^ y = 0 ^^^ y := by rw [h]
  rwa [Nat.xor_assoc, Nat.xor_self, Nat.xor_zero, Nat.zero_xor] at this
theorem step_inj {s t : Nat} (hs : s < 4294967296) (ht : t < 4294967296) (e : step s = step t) : s = t := by
  have : step (s ^^^ t) = 0 := by rw [step_xor, e, Nat.xor_self]
  exact xor_eq_zero (step_zero (xor_lt hs ht) this)
theorem steps_inj {n s t : Nat} (hs : s < 4294967296) (ht : t < 4294967296) (e : steps n s = steps n t) : s = t := by
  induction n with
  | zero => exact e
  | succ n ih => exact ih (step_inj (steps_lt hs) (steps_lt ht) e)
theorem xor_right_cancel {x y z : Nat} (h : x ^^^ z = y ^^^ z) : x = y := by
  have : x ^^^ z ^^^ z = y ^^^ z ^^^ z := by rw [h]
  rwa [Nat.xor_assoc, Nat.xor_assoc, Nat.xor_self, Nat.xor_zero, Nat.xor_zero] at this
theorem byte_inj {s t b : Nat} (hs : s < 4294967296) (ht : t < 4294967296) (hb : b < 256) (e : byte s b = byte t b) : s = t :=
  xor_right_cancel (steps_inj (xor_lt hs (by omega)) (xor_lt ht (by omega)) e)
theorem go_inj {s t : Nat} (hs : s < 4294967296) (ht : t < 4294967296) (l : List UInt8) (e : go s l = go t l) : s = t := by
  induction l generalizing s t with
  | nil => exact e
  | cons b l ih => exact byte_inj hs ht (UInt8.toNat_lt b) (ih (byte_lt hs (UInt8.toNat_lt b)) (byte_lt ht (UInt8.toNat_lt b)) e)
theorem fin_inj {s t : Nat} (e : fin s = fin t) : s = t := xor_right_cancel e

/-- Four texts of one length whose bytes are together 0. -/
theorem go_four : ∀ (a b c d : List UInt8) (s t u v : Nat), a.length = b.length → a.length = c.length → a.length = d.length → s ^^^ t ^^^ u ^^^ v = 0 →
    (∀ i, i < a.length → (a.getD i 0).toNat ^^^ (b.getD i 0).toNat ^^^ (c.getD i 0).toNat ^^^ (d.getD i 0).toNat = 0) → go s a ^^^ go t b ^^^ go u c ^^^ go v d = 0
  | [], b, c, d, s, t, u, v, hb, hc, hd, h, _ => by
    obtain rfl := List.eq_nil_of_length_eq_zero hb.symm
    obtain rfl := List.eq_nil_of_length_eq_zero hc.symm
    obtain rfl := List.eq_nil_of_length_eq_zero hd.symm
    exact h
  | x :: a, [], c, d, s, t, u, v, hb, hc, hd, h, _ => by simp at hb
  | x :: a, y :: b, [], d, s, t, u, v, hb, hc, hd, h, _ => by simp at hc
  | x :: a, y :: b, z :: c, [], s, t, u, v, hb, hc, hd, h, _ => by simp at hd
  | x :: a, y :: b, z :: c, q :: d, s, t, u, v, hb, hc, hd, h, hh => by
    refine go_four a b c d _ _ _ _ (by simpa using hb) (by simpa using hc) (by simpa using hd) ?_ (fun i hi => by have := hh (i + 1) (by simpa using hi); simpa using this)
    have h0 := hh 0 (by simp)
    simp only [List.getD_cons_zero] at h0
    have e : byte s x.toNat ^^^ byte t y.toNat ^^^ byte u z.toNat ^^^ byte v q.toNat = byte (s ^^^ t ^^^ u ^^^ v) (x.toNat ^^^ y.toNat ^^^ z.toNat ^^^ q.toNat) := by
      rw [byte_xor, byte_xor, byte_xor]
    rw [e, h, h0]
    decide
theorem fin_two (a b : Nat) : fin a ^^^ fin b = a ^^^ b := by unfold fin; rw [xor4, Nat.xor_self, Nat.xor_zero]
theorem fin_four {a b c d : Nat} (h : a ^^^ b ^^^ c ^^^ d = 0) : fin a ^^^ fin b ^^^ fin c ^^^ fin d = 0 := by
  rw [Nat.xor_assoc, fin_two, fin_two, ← Nat.xor_assoc, h]

/-! Bit by bit. -/
def bstep (s l : Nat) : Nat := step (s ^^^ l)
def bgo (s : Nat) (f : Nat → Nat) : Nat → Nat
  | 0 => s
  | n + 1 => bstep (bgo s f n) (f n)
theorem bgo_add (s : Nat) (f : Nat → Nat) (n m : Nat) : bgo s f (n + m) = bgo (bgo s f n) (fun i => f (n + i)) m := by
  induction m with
  | zero => rfl
  | succ m ih => rw [Nat.add_succ, bgo, ih]; rfl
theorem bgo_congr (s : Nat) {f g : Nat → Nat} {n : Nat} (h : ∀ i, i < n → f i = g i) : bgo s f n = bgo s g n := by
  induction n with
  | zero => rfl
  | succ n ih => rw [bgo, bgo, ih (fun i hi => h i (by omega)), h n (by omega)]
theorem bstep_lt {s l : Nat} (h : s < 4294967296) (hl : l < 2) : bstep s l < 4294967296 := step_lt (xor_lt h (by omega))
theorem bgo_lt {s : Nat} {f : Nat → Nat} {n : Nat} (h : s < 4294967296) (hf : ∀ i, f i < 2) : bgo s f n < 4294967296 := by
  induction n with
  | zero => exact h
  | succ n ih => exact bstep_lt ih (hf n)
theorem step_even (c : Nat) : step (2 * c) = c := by
  unfold step; rw [if_neg (by omega), Nat.xor_zero]; omega
theorem even_xor_bit (c l : Nat) (h : l < 2) : 2 * c + l = 2 * c ^^^ l := by
  rcases (by omega : l = 0 ∨ l = 1) with rfl | rfl
  · rw [Nat.xor_zero, Nat.add_zero]
  · apply Nat.eq_of_testBit_eq
    intro j
    cases j with
    | zero => simp [Nat.testBit_zero]
    | succ j =>
      rw [Nat.testBit_xor, Nat.testBit_succ, Nat.testBit_succ, Nat.testBit_succ, show (2 * c + 1) / 2 = c by omega, show 2 * c / 2 = c by omega]
      simp
theorem steps_bits (s b : Nat) : ∀ k, steps k (s ^^^ b) = bgo s (fun i => b / 2 ^ i % 2) k ^^^ b / 2 ^ k
  | 0 => by simp [steps, bgo]
  | k + 1 => by
    rw [steps_succ, steps_bits s b k, bgo, bstep]
    have e : b / 2 ^ k = 2 * (b / 2 ^ (k + 1)) ^^^ (b / 2 ^ k % 2) := by
      rw [← even_xor_bit _ _ (Nat.mod_lt _ (by decide)), Nat.pow_succ, ← Nat.div_div_eq_div_mul]; omega
    generalize hc : b / 2 ^ (k + 1) = c at *
    generalize hl : b / 2 ^ k % 2 = l at *
    rw [e, Nat.xor_comm (2 * c), ← Nat.xor_assoc, step_xor, step_even]
theorem byte_bits {s b : Nat} (hb : b < 256) : byte s b = bgo s (fun i => b / 2 ^ i % 2) 8 := by
  unfold byte
  rw [steps_bits, Nat.div_eq_of_lt (by omega : b < 2 ^ 8), Nat.xor_zero]
def bitAt (l : List UInt8) (i : Nat) : Nat := (l.getD (i / 8) 0).toNat / 2 ^ (i % 8) % 2
theorem bitAt_lt (l : List UInt8) (i : Nat) : bitAt l i < 2 := Nat.mod_lt _ (by decide)
theorem bitAt_cons (b : UInt8) (l : List UInt8) (i : Nat) : bitAt (b :: l) (8 + i) = bitAt l i := by
  unfold bitAt
  rw [show (8 + i) / 8 = i / 8 + 1 by omega, show (8 + i) % 8 = i % 8 by omega, List.getD_cons_succ]
theorem go_bits (s : Nat) (l : List UInt8) : go s l = bgo s (bitAt l) (8 * l.length) := by
  induction l generalizing s with
  | nil => rfl
  | cons b l ih =>
    have : go s (b :: l) = go (byte s b.toNat) l := rfl
    rw [this, ih, byte_bits (UInt8.toNat_lt b), List.length_cons, show 8 * (l.length + 1) = 8 + 8 * l.length by omega, bgo_add]
    have e1 : bgo s (bitAt (b :: l)) 8 = bgo s (fun i => b.toNat / 2 ^ i % 2) 8 := bgo_congr s fun i hi => by
      unfold bitAt
      rw [show i / 8 = 0 by omega, show i % 8 = i by omega, List.getD_cons_zero]
    rw [e1]
    exact bgo_congr _ fun i _ => (bitAt_cons b l i).symm

/-! A run of at most 32 bits. -/
theorem bgo_inj {s t : Nat} {f : Nat → Nat} {n : Nat} (hf : ∀ i, f i < 2) (hs : s < 4294967296) (ht : t < 4294967296) (h : bgo s f n = bgo t f n) : s = t := by
  induction n with
  | zero => exact h
  | succ n ih =>
    refine ih (xor_right_cancel (z := f n) (step_inj (xor_lt (bgo_lt hs hf) ?_) (xor_lt (bgo_lt ht hf) ?_) h)) <;> exact Nat.lt_of_lt_of_le (hf n) (by decide)
theorem small_of_step {x j : Nat} (hx : x < 4294967296) (hj : j ≤ 31) (h : step x < 2 ^ j) : x % 2 = 0 ∧ x < 2 ^ (j + 1) := by
  have h31 : 2 ^ j ≤ 2 ^ 31 := Nat.pow_le_pow_right (by decide) hj
  have ht := step_top hx
  rw [Nat.div_eq_of_lt (by omega)] at ht
  refine ⟨ht.symm, ?_⟩
  unfold step at h
  rw [if_neg (by omega), Nat.xor_zero] at h
  rw [Nat.pow_succ]; omega
/-- The differences of two runs. -/
def dif (s : Nat) (f g : Nat → Nat) (k : Nat) : Nat := bgo s f k ^^^ bgo s g k
theorem dif_succ (s : Nat) (f g : Nat → Nat) (k : Nat) : dif s f g (k + 1) = step (dif s f g k ^^^ (f k ^^^ g k)) := by
  unfold dif
  rw [bgo, bgo, bstep, bstep, ← step_xor, xor4]
theorem dif_lt {s : Nat} {f g : Nat → Nat} {k : Nat} (hs : s < 4294967296) (hf : ∀ i, f i < 2) (hg : ∀ i, g i < 2) : dif s f g k < 4294967296 := xor_lt (bgo_lt hs hf) (bgo_lt hs hg)
theorem bit_xor_lt {a b : Nat} (ha : a < 2) (hb : b < 2) : a ^^^ b < 2 := Nat.xor_lt_two_pow (n := 1) ha hb
theorem dif_back {s : Nat} {f g : Nat → Nat} (hs : s < 4294967296) (hf : ∀ i, f i < 2) (hg : ∀ i, g i < 2) {m : Nat} (h0 : dif s f g m = 0) :
    ∀ j, j ≤ 32 → j ≤ m → dif s f g (m - j) < 2 ^ j ∧ ∀ k, m - j ≤ k → k < m → (dif s f g k ^^^ (f k ^^^ g k)) % 2 = 0
  | 0, _, _ => ⟨by rw [Nat.sub_zero, h0]; decide, fun k h1 h2 => by omega⟩
  | j + 1, hj, hm => by
    obtain ⟨h1, h2⟩ := dif_back hs hf hg h0 j (by omega) (by omega)
    have e : m - j = (m - (j + 1)) + 1 := by omega
    rw [e, dif_succ] at h1
    have hb := bit_xor_lt (hf (m - (j + 1))) (hg (m - (j + 1)))
    have hd := dif_lt (k := m - (j + 1)) hs hf hg
    obtain ⟨h3, h4⟩ := small_of_step (xor_lt hd (by omega)) (by omega) h1
    refine ⟨?_, fun k hk1 hk2 => ?_⟩
    · have : dif s f g (m - (j + 1)) = dif s f g (m - (j + 1)) ^^^ (f (m - (j + 1)) ^^^ g (m - (j + 1))) ^^^ (f (m - (j + 1)) ^^^ g (m - (j + 1))) := by rw [Nat.xor_assoc, Nat.xor_self, Nat.xor_zero]
      rw [this]
      refine Nat.xor_lt_two_pow h4 (Nat.lt_of_lt_of_le hb ?_)
      exact Nat.le_trans (show 2 ≤ 2 ^ 1 by decide) (Nat.pow_le_pow_right (by decide) (by omega))
    · by_cases e2 : k = m - (j + 1)
      · rw [e2]; exact h3
      · exact h2 k (by omega) hk2
theorem run_same {s : Nat} {f g : Nat → Nat} {n a : Nat} (hs : s < 4294967296) (hf : ∀ i, f i < 2) (hg : ∀ i, g i < 2)
    (hlow : ∀ i, i < a → f i = g i) (hhigh : ∀ i, a + 32 ≤ i → f i = g i) (h : bgo s f n = bgo s g n) : ∀ i, i < n → f i = g i := by
  by_cases han : n ≤ a
  · exact fun i hi => hlow i (by omega)
  obtain ⟨m, hm, hma, hmn⟩ : ∃ m, (m = a + 32 ∨ m = n) ∧ m ≤ a + 32 ∧ m ≤ n := by
    by_cases h : a + 32 ≤ n
    · exact ⟨a + 32, .inl rfl, by omega, h⟩
    · exact ⟨n, .inr rfl, by omega, by omega⟩
  have hm0 : dif s f g m = 0 := by
    have e : bgo s f m = bgo s g m := by
      rcases hm with rfl | rfl
      · have h' := h
        rw [show n = (a + 32) + (n - (a + 32)) by omega, bgo_add s f (a + 32), bgo_add s g (a + 32)] at h'
        have e2 : bgo (bgo s g (a + 32)) (fun i => g (a + 32 + i)) (n - (a + 32)) = bgo (bgo s g (a + 32)) (fun i => f (a + 32 + i)) (n - (a + 32)) :=
          bgo_congr _ fun i _ => (hhigh _ (by omega)).symm
        rw [e2] at h'
        exact bgo_inj (fun i => hf _) (bgo_lt hs hf) (bgo_lt hs hg) h'
      · exact h
    unfold dif; rw [e, Nat.xor_self]
  obtain ⟨_, hb⟩ := dif_back hs hf hg hm0 (m - a) (by omega) (by omega)
  have ha0 : dif s f g a = 0 := by
    unfold dif; rw [bgo_congr s hlow, Nat.xor_self]
  have hz : ∀ k, k ≤ m - a → dif s f g (a + k) = 0 ∧ ∀ i, i < k → f (a + i) = g (a + i) := by
    intro k
    induction k with
    | zero => exact fun _ => ⟨ha0, fun i hi => by omega⟩
    | succ k ih =>
      intro hk
      obtain ⟨h1, h2⟩ := ih (by omega)
      have h3 := hb (a + k) (by omega) (by omega)
      rw [h1, Nat.zero_xor] at h3
      have hlt := bit_xor_lt (hf (a + k)) (hg (a + k))
      have he : f (a + k) ^^^ g (a + k) = 0 := by omega
      refine ⟨?_, fun i hi => ?_⟩
      · rw [← Nat.add_assoc, dif_succ, h1, he]; decide
      · by_cases e : i = k
        · rw [e]; exact xor_eq_zero he
        · exact h2 i (by omega)
  intro i hi
  by_cases h1 : i < a
  · exact hlow i h1
  by_cases h2 : a + 32 ≤ i
  · exact hhigh i h2
  have := (hz (m - a) (by omega)).2 (i - a) (by omega)
  rwa [show a + (i - a) = i by omega] at this

/-! The document's division, the other way round. -/
def rv : Nat → Nat → Nat
  | 0, _ => 0
  | k + 1, n => 2 * rv k n + n / 2 ^ k % 2
theorem rv_bit (n : Nat) : ∀ k i, (rv k n).testBit i = (decide (i < k) && n.testBit (k - 1 - i))
  | 0, i => by simp [rv]
  | k + 1, 0 => by
    rw [rv, Nat.testBit_zero, show k + 1 - 1 - 0 = k by omega, Nat.testBit_eq_decide_div_mod_eq]
    simp
  | k + 1, i + 1 => by
    rw [rv, Nat.testBit_succ, show (2 * rv k n + n / 2 ^ k % 2) / 2 = rv k n by omega, rv_bit n k i, show k + 1 - 1 - (i + 1) = k - 1 - i by omega]
    simp
theorem rv_lt (n : Nat) : ∀ k, rv k n < 2 ^ k
  | 0 => by simp [rv]
  | k + 1 => by have := rv_lt n k; rw [rv, Nat.pow_succ]; omega
theorem rv_xor (k a b : Nat) : rv k (a ^^^ b) = rv k a ^^^ rv k b := by
  apply Nat.eq_of_testBit_eq
  intro i
  simp only [Nat.testBit_xor, rv_bit]
  cases decide (i < k) <;> simp
def dstep (r l : Nat) : Nat := if r / 2147483648 = l then 2 * (r % 2147483648) else 2 * (r % 2147483648) ^^^ 517762881
theorem rv_top {s : Nat} : rv 32 s / 2147483648 = s % 2 := by
  have hl := rv_lt s 32
  have h := rv_bit s 32 31
  rw [Nat.testBit_eq_decide_div_mod_eq] at h
  simp [Nat.testBit_zero] at h
  have : rv 32 s / 2147483648 < 2 := by omega
  have h2 : rv 32 s / 2147483648 % 2 = rv 32 s / 2147483648 := Nat.mod_eq_of_lt this
  rw [h2] at h
  omega
theorem rv_half {s : Nat} (h : s < 4294967296) : rv 32 (s / 2) = 2 * (rv 32 s % 2147483648) := by
  apply Nat.eq_of_testBit_eq
  intro i
  cases i with
  | zero =>
    rw [rv_bit, Nat.testBit_zero, ← Nat.testBit_succ]
    have : s.testBit 32 = false := Nat.testBit_lt_two_pow h
    simp [this]
  | succ i =>
    have e1 : (2 * (rv 32 s % 2147483648)).testBit (i + 1) = (rv 32 s % 2 ^ 31).testBit i := by
      rw [Nat.testBit_succ, show 2 * (rv 32 s % 2147483648) / 2 = rv 32 s % 2 ^ 31 by omega]
    have e2 : ∀ k, (s / 2).testBit k = s.testBit (k + 1) := fun k => (Nat.testBit_succ ..).symm
    rw [rv_bit, e1, e2, Nat.testBit_mod_two_pow, rv_bit]
    by_cases hi : i < 31
    · rw [show 32 - 1 - (i + 1) + 1 = 32 - 1 - i by omega]
      simp [hi, show i < 32 by omega, show i + 1 < 32 by omega]
    · simp [hi, show ¬ i + 1 < 32 by omega]
theorem dstep_rv {s l : Nat} (h : s < 4294967296) (hl : l < 2) : dstep (rv 32 s) l = rv 32 (bstep s l) := by
  unfold dstep bstep step
  have e1 : (s ^^^ l) / 2 = s / 2 := by rw [half_xor, show l / 2 = 0 by omega, Nat.xor_zero]
  have e2 : (s ^^^ l) % 2 = (s % 2 + l) % 2 := by rw [odd_xor, show l % 2 = l by omega]
  rw [rv_top, e1, e2, rv_xor, rv_half h]
  by_cases e : s % 2 = l
  · rw [if_pos e, if_neg (by omega)]
    have : rv 32 0 = 0 := by decide +kernel
    rw [this, Nat.xor_zero]
  · rw [if_neg e, if_pos (by omega)]
    have : rv 32 2197175160 = 517762881 := by decide +kernel
    rw [this]
theorem rv_rv {s : Nat} (h : s < 4294967296) : rv 32 (rv 32 s) = s := by
  apply Nat.eq_of_testBit_eq
  intro i
  rw [rv_bit, rv_bit]
  by_cases hi : i < 32
  · rw [show 32 - 1 - (32 - 1 - i) = i by omega]
    simp [hi, show 32 - 1 - i < 32 by omega]
  · have : s.testBit i = false := Nat.testBit_lt_two_pow (Nat.lt_of_lt_of_le h (Nat.pow_le_pow_right (n := 2) (by decide) (show 32 ≤ i by omega)))
    simp [hi, this]
def dgo (r : Nat) (f : Nat → Nat) : Nat → Nat
  | 0 => r
  | n + 1 => dstep (dgo r f n) (f n)
theorem dgo_rv {s : Nat} {f : Nat → Nat} (h : s < 4294967296) (hf : ∀ i, f i < 2) : ∀ n, dgo (rv 32 s) f n = rv 32 (bgo s f n)
  | 0 => rfl
  | n + 1 => by rw [dgo, dgo_rv h hf n, dstep_rv (bgo_lt h hf) (hf n)]; rfl
theorem dgo_go {s : Nat} (h : s < 4294967296) (l : List UInt8) : rv 32 (dgo (rv 32 s) (bitAt l) (8 * l.length)) = go s l := by
  rw [dgo_rv h (bitAt_lt l), rv_rv (bgo_lt h (bitAt_lt l)), go_bits]
end Go.Proofs.YtdbjfofnkijmoaaDoor.Crc
