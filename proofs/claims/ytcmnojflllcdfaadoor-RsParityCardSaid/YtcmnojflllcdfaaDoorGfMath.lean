/- The field with 256 elements by powers and logarithms: plain mathematics, no program. -/
namespace Go.Proofs.YtcmnojflllcdfaaDoor.Gf
/-- The powers, eight bits each. -/
def pwN : Nat := 0x8e47add86c361b83cfe9fa7db0582c160b8bcbebfbf3f7f5f47a3d90482412098a45ac562b9bc3eff9f279b259a251a653a7dde070381c0e078dc86432198241ae57a5dc6e3795c46231964babdbe3fff1f67bb3d7e5fc7e3f91c663bfd1e673b7d5e472399249aa55a452299a4da8542a158442219e4fa9da6db85c2e1785cc663397c5ec763b93c7edf87c3e1f81ce67bdd068341a0d884422118643afd9e271b65ba3dfe1fe7fb1d66bbbd3e7fdf0783c1e0f89ca65bc5e2f99c261be5fa1de6fb9d269ba5da05028140a058c46239fc1ee77b5d46a35944a259c4e279dc06030180c06038fc9ea75b45a2d984c261387cde8743a1d8040201008040201
/-- The logarithms, eight bits each. -/
def lgN : Nat := 0xaf5850a8eaf4d674e8ade7e6e9d5ae4fd72c757aeb16f50b51a0a99cb05f59cb5a3eccbbb18660fbaa559d29523ba16cf66f0c7fec4917c476a47bb7d8432d1fa2416d4753393c849e5d2a14abd356f261befcdcb2978790cdcfbc955bd13f372e892023d99244117cb4b8267799a5e318fec531edde4a670d63808cf7c0700757a7f373ace5d44e2b79150a9f9b5eca3dba85fa54283a6b6e7e48c3a3b6421e404638835c13d2f1bddb968fce94d03688229110b32598e2fd30dd66628bbf06a672e44d78099ac9b9f9276a7dc2b51d458212f0da8e9335210f24e12f658a05714c08c8f869c11c81ef8d340ee064044bc7681bee33df03c61a3202190100

def pw (n : Nat) : Nat := pwN / 256 ^ n % 256
def lg (a : Nat) : Nat := lgN / 256 ^ (a - 1) % 256
/-- The product by the tables. -/
def gm (a b : Nat) : Nat := if a = 0 ∨ b = 0 then 0 else pw ((lg a + lg b) % 255)
/-- Twice, by the modulus. -/
def xt (x : Nat) : Nat := if x < 128 then 2 * x else 2 * x ^^^ 285

theorem pw_spec : ∀ n, n < 255 → 1 ≤ pw n ∧ pw n < 256 ∧ lg (pw n) = n := by
  have h : ∀ n : Fin 255, 1 ≤ pw n.val ∧ pw n.val < 256 ∧ lg (pw n.val) = n.val := by decide +kernel
  exact fun n hn => h ⟨n, hn⟩
theorem lg_spec : ∀ a, 1 ≤ a → a < 256 → lg a < 255 ∧ pw (lg a) = a := by
  have h : ∀ a : Fin 256, 1 ≤ a.val → lg a.val < 255 ∧ pw (lg a.val) = a.val := by decide +kernel
  exact fun a h1 h2 => h ⟨a, h2⟩ h1
theorem pw_lt (n : Nat) : pw n < 256 := Nat.mod_lt _ (by decide)
theorem lg_lt (n : Nat) : lg n < 255 := by
  by_cases h : n < 256
  · have : ∀ n : Fin 256, lg n.val < 255 := by decide +kernel
    exact this ⟨n, h⟩
  · unfold lg
    rw [Nat.div_eq_of_lt]
    · decide
    · exact Nat.lt_of_lt_of_le (show lgN < 256 ^ 255 by decide +kernel) (Nat.pow_le_pow_right (by decide) (by omega))

theorem gm_zero_left (b : Nat) : gm 0 b = 0 := by simp [gm]
theorem gm_zero_right (a : Nat) : gm a 0 = 0 := by simp [gm]
theorem gm_lt (a b : Nat) : gm a b < 256 := by
  unfold gm; split
  · decide
  · exact pw_lt _
theorem gm_comm (a b : Nat) : gm a b = gm b a := by
  unfold gm; rw [Nat.add_comm]; simp only [or_comm]
theorem gm_ne {a b : Nat} (ha : a ≠ 0) (hb : b ≠ 0) : gm a b = pw ((lg a + lg b) % 255) := by
  unfold gm; rw [if_neg (by simp [ha, hb])]
theorem gm_pos {a b : Nat} (ha : a ≠ 0) (hb : b ≠ 0) : gm a b ≠ 0 := by
  rw [gm_ne ha hb]; have := (pw_spec _ (Nat.mod_lt (lg a + lg b) (by decide : 255 > 0))).1; omega
theorem gm_eq_zero {a b : Nat} : gm a b = 0 ↔ a = 0 ∨ b = 0 := by
  constructor
  · intro h
    by_cases ha : a = 0
    · exact .inl ha
    · by_cases hb : b = 0
      · exact .inr hb
      · exact absurd h (gm_pos ha hb)
  · rintro (rfl | rfl)
    · exact gm_zero_left _
    · exact gm_zero_right _
theorem lg_gm {a b : Nat} (ha : a ≠ 0) (hb : b ≠ 0) : lg (gm a b) = (lg a + lg b) % 255 := by
  rw [gm_ne ha hb]; exact (pw_spec _ (Nat.mod_lt _ (by decide))).2.2
theorem gm_assoc (a b c : Nat) : gm (gm a b) c = gm a (gm b c) := by
  by_cases ha : a = 0
  · subst ha; simp [gm_zero_left]
  by_cases hb : b = 0
  · subst hb; simp [gm_zero_left, gm_zero_right]
  by_cases hc : c = 0
  · subst hc; simp [gm_zero_right]
  rw [gm_ne (gm_pos ha hb) hc, gm_ne ha (gm_pos hb hc), lg_gm ha hb, lg_gm hb hc]
  congr 1
  omega
theorem lg_one : lg 1 = 0 := by decide +kernel
theorem gm_one {a : Nat} (h : a < 256) : gm a 1 = a := by
  by_cases ha : a = 0
  · subst ha; exact gm_zero_left _
  have := lg_spec a (by omega) h
  rw [gm_ne ha (by decide), lg_one, Nat.add_zero, Nat.mod_eq_of_lt this.1, this.2]
theorem pw_add (n m : Nat) (hn : n < 255) (hm : m < 255) : gm (pw n) (pw m) = pw ((n + m) % 255) := by
  have h1 := pw_spec n hn
  have h2 := pw_spec m hm
  rw [gm_ne (by omega) (by omega), h1.2.2, h2.2.2]

/-- The inverse. -/
def gi (a : Nat) : Nat := pw ((255 - lg a) % 255)
theorem gi_lt (a : Nat) : gi a < 256 := pw_lt _
theorem gi_pos (a : Nat) : gi a ≠ 0 := by
  have := (pw_spec ((255 - lg a) % 255) (Nat.mod_lt _ (by decide))).1
  unfold gi; omega
theorem gm_gi {a : Nat} (h0 : a ≠ 0) (h : a < 256) : gm a (gi a) = 1 := by
  have hl := lg_spec a (by omega) h
  have hi := pw_spec ((255 - lg a) % 255) (Nat.mod_lt _ (by decide))
  rw [gm_ne h0 (gi_pos a)]
  unfold gi
  rw [hi.2.2, show (lg a + (255 - lg a) % 255) % 255 = 0 by omega]
  decide +kernel
theorem gm_cancel {a x y : Nat} (h0 : a ≠ 0) (h : a < 256) (hx : x < 256) (hy : y < 256) (e : gm a x = gm a y) : x = y := by
  have := congrArg (gm (gi a)) e
  rw [← gm_assoc, ← gm_assoc, gm_comm (gi a), gm_gi h0 h, gm_comm 1, gm_comm 1, gm_one hx, gm_one hy] at this
  exact this

theorem xor_lt {x y : Nat} (hx : x < 256) (hy : y < 256) : x ^^^ y < 256 := Nat.xor_lt_two_pow (n := 8) hx hy
theorem xt_xor : ∀ x y, x < 256 → y < 256 → xt (x ^^^ y) = xt x ^^^ xt y := by
  have e : ∀ x, x < 256 → xt x = 2 * x ^^^ (x / 128 * 285) := by
    have h : ∀ x : Fin 256, xt x.val = 2 * x.val ^^^ (x.val / 128 * 285) := by decide +kernel
    exact fun x hx => h ⟨x, hx⟩
  have c : ∀ a b, a < 2 → b < 2 → (a ^^^ b) * 285 = a * 285 ^^^ b * 285 := by
    have h : ∀ a b : Fin 2, (a.val ^^^ b.val) * 285 = a.val * 285 ^^^ b.val * 285 := by decide
    exact fun a b ha hb => h ⟨a, ha⟩ ⟨b, hb⟩
  have d : ∀ x y : Nat, 2 * (x ^^^ y) = 2 * x ^^^ 2 * y := fun x y => by
    have := Nat.shiftLeft_xor_distrib (a := x) (b := y) (i := 1)
    simpa [Nat.shiftLeft_eq, Nat.mul_comm] using this
  have q : ∀ x y : Nat, (x ^^^ y) / 128 = x / 128 ^^^ y / 128 := fun x y => by
    have := Nat.shiftRight_xor_distrib (a := x) (b := y) (i := 7)
    simpa [Nat.shiftRight_eq_div_pow] using this
  intro x y hx hy
  rw [e _ (xor_lt hx hy), e _ hx, e _ hy, d, q, c _ _ (by omega) (by omega)]
  rw [Nat.xor_assoc, Nat.xor_assoc, ← Nat.xor_assoc (2 * y), Nat.xor_comm (2 * y), Nat.xor_assoc (x / 128 * 285)]
theorem gm_two : ∀ x, x < 256 → gm 2 x = xt x := by
  have h : ∀ x : Fin 256, gm 2 x.val = xt x.val := by decide +kernel
  exact fun x hx => h ⟨x, hx⟩
theorem pw_succ : ∀ n, n + 1 < 255 → pw (n + 1) = gm 2 (pw n) := by
  have h : ∀ n : Fin 254, pw (n.val + 1) = gm 2 (pw n.val) := by decide +kernel
  exact fun n hn => h ⟨n, by omega⟩
theorem pw_xor (n : Nat) : n < 255 → ∀ x y, x < 256 → y < 256 → gm (pw n) (x ^^^ y) = gm (pw n) x ^^^ gm (pw n) y := by
  induction n with
  | zero =>
    intro _ x y hx hy
    have h0 : pw 0 = 1 := by decide +kernel
    rw [h0, gm_comm 1, gm_comm 1, gm_comm 1, gm_one (xor_lt hx hy), gm_one hx, gm_one hy]
  | succ n ih =>
    intro hn x y hx hy
    rw [pw_succ n hn, gm_assoc, gm_assoc, gm_assoc, ih (by omega) x y hx hy, gm_two _ (xor_lt (gm_lt _ _) (gm_lt _ _)), gm_two _ (gm_lt _ _), gm_two _ (gm_lt _ _)]
    exact xt_xor _ _ (gm_lt _ _) (gm_lt _ _)
/-- A product goes over a sum. -/
theorem gm_xor {a x y : Nat} (ha : a < 256) (hx : x < 256) (hy : y < 256) : gm a (x ^^^ y) = gm a x ^^^ gm a y := by
  by_cases h0 : a = 0
  · subst h0; simp [gm_zero_left]
  have hl := lg_spec a (by omega) ha
  have := pw_xor (lg a) hl.1 x y hx hy
  rwa [hl.2] at this
theorem gm_xor_left {a x y : Nat} (ha : a < 256) (hx : x < 256) (hy : y < 256) : gm (x ^^^ y) a = gm x a ^^^ gm y a := by
  rw [gm_comm, gm_xor ha hx hy, gm_comm a, gm_comm a]

/-- The quotient. -/
def gd (a b : Nat) : Nat := gm a (gi b)
theorem gd_gm {a b : Nat} (ha : a < 256) (h0 : b ≠ 0) (h : b < 256) : gd (gm a b) b = a := by
  unfold gd; rw [gm_assoc, gm_gi h0 h, gm_one ha]
theorem gi_gm {b c : Nat} (hb0 : b ≠ 0) (hb : b < 256) (hc0 : c ≠ 0) (hc : c < 256) : gi (gm b c) = gm (gi b) (gi c) := by
  refine gm_cancel (gm_pos hb0 hc0) (gm_lt _ _) (gi_lt _) (gm_lt _ _) ?_
  rw [gm_gi (gm_pos hb0 hc0) (gm_lt _ _), gm_assoc, ← gm_assoc c, gm_comm c (gi b), gm_assoc (gi b), gm_gi hc0 hc, gm_one (gi_lt _), gm_gi hb0 hb]

theorem gi_inj {a b : Nat} (ha0 : a ≠ 0) (ha : a < 256) (hb0 : b ≠ 0) (hb : b < 256) (h : gi a = gi b) : a = b := by
  have q := gm_gi ha0 ha
  rw [h, ← gm_gi hb0 hb, gm_comm a, gm_comm b] at q
  exact gm_cancel (gi_pos b) (gi_lt b) ha hb q
theorem lg_inj {a b : Nat} (ha0 : a ≠ 0) (ha : a < 256) (hb0 : b ≠ 0) (hb : b < 256) (h : lg a = lg b) : a = b := by
  rw [← (lg_spec a (by omega) ha).2, h, (lg_spec b (by omega) hb).2]
theorem gd_lt (a b : Nat) : gd a b < 256 := gm_lt _ _
theorem gd_xor {a b c : Nat} (ha : a < 256) (hb : b < 256) : gd (a ^^^ b) c = gd a c ^^^ gd b c := gm_xor_left (gi_lt c) ha hb
theorem gd_gd {a c d : Nat} (hc0 : c ≠ 0) (hc : c < 256) (hd0 : d ≠ 0) (hd : d < 256) : gd (gd a c) d = gd a (gm c d) := by
  unfold gd; rw [gi_gm hc0 hc hd0 hd, gm_assoc]
theorem pw_inj {n m : Nat} (hn : n < 255) (hm : m < 255) (h : pw n = pw m) : n = m := by
  rw [← (pw_spec n hn).2.2, h, (pw_spec m hm).2.2]
theorem sq_xor {a b : Nat} (ha : a < 256) (hb : b < 256) : gm (a ^^^ b) (a ^^^ b) = gm a a ^^^ gm b b := by
  rw [gm_xor (xor_lt ha hb) ha hb, gm_xor_left ha ha hb, gm_xor_left hb ha hb, gm_comm b a, Nat.xor_assoc, ← Nat.xor_assoc (gm a b), Nat.xor_self, Nat.zero_xor]
theorem sq_inj {a b : Nat} (ha : a < 256) (hb : b < 256) (h : gm a a = gm b b) : a = b := by
  have e := sq_xor ha hb
  rw [h, Nat.xor_self, gm_eq_zero, or_self] at e
  have : a ^^^ b ^^^ b = 0 ^^^ b := by rw [e]
  rwa [Nat.xor_assoc, Nat.xor_self, Nat.xor_zero, Nat.zero_xor] at this

/-! The document's product, bit by bit. -/
/-- After i steps: what has been added up. -/
def part (a b i : Nat) : Nat := gm a (b % 2 ^ i)
theorem pw_two : ∀ i, i < 8 → pw i = 2 ^ i := by decide +kernel
theorem part_zero (a b : Nat) : part a b 0 = 0 := by unfold part; rw [Nat.pow_zero, Nat.mod_one]; exact gm_zero_right _
theorem mod_succ (b i : Nat) : b % 2 ^ (i + 1) = if b / 2 ^ i % 2 = 1 then b % 2 ^ i ^^^ 2 ^ i else b % 2 ^ i := by
  have h := Nat.mod_pow_succ (x := b) (b := 2) (k := i)
  rw [h]
  have hlt : b % 2 ^ i < 2 ^ i := Nat.mod_lt _ (Nat.two_pow_pos i)
  split
  · rename_i e
    rw [e, Nat.mul_one]
    apply Nat.eq_of_testBit_eq
    intro j
    rw [Nat.add_comm, Nat.testBit_xor]
    rcases Nat.lt_trichotomy j i with hj | hj | hj
    · have : i ≠ j := by omega
      rw [Nat.testBit_two_pow_add_gt hj]; simp [this]
    · subst hj; rw [Nat.testBit_two_pow_add_eq]; simp
    · rw [Nat.testBit_lt_two_pow (x := 2 ^ i + b % 2 ^ i), Nat.testBit_lt_two_pow (x := b % 2 ^ i)]
      · have : i ≠ j := by omega
        simp [this]
      · exact Nat.lt_trans hlt (Nat.pow_lt_pow_right (by decide) hj)
      · have : 2 ^ (i + 1) ≤ 2 ^ j := Nat.pow_le_pow_right (by decide) hj
        rw [Nat.pow_succ] at this; omega
  · rename_i e
    have : b / 2 ^ i % 2 = 0 := by omega
    rw [this]; simp
theorem part_succ {a b i : Nat} (ha : a < 256) (hi : i < 8) : part a b (i + 1) = if b / 2 ^ i % 2 = 1 then part a b i ^^^ gm a (pw i) else part a b i := by
  unfold part
  rw [mod_succ]
  have h8 : 2 ^ i ≤ 128 := Nat.le_trans (Nat.pow_le_pow_right (by decide) (show i ≤ 7 by omega)) (by decide)
  have hlt : b % 2 ^ i < 2 ^ i := Nat.mod_lt _ (Nat.two_pow_pos i)
  split
  · rw [gm_xor ha (by omega) (by omega), pw_two i hi]
  · rfl
theorem part_eight {a b : Nat} (hb : b < 256) : part a b 8 = gm a b := by unfold part; rw [Nat.mod_eq_of_lt hb]
theorem gm_pw_succ {a i : Nat} (hi : i + 1 < 255) : gm a (pw (i + 1)) = xt (gm a (pw i)) := by
  rw [pw_succ i hi, ← gm_assoc, gm_comm a, gm_assoc, gm_two _ (gm_lt _ _)]
end Go.Proofs.YtcmnojflllcdfaaDoor.Gf
