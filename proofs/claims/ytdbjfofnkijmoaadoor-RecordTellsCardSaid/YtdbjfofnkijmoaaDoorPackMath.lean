/- Numbers in bytes, the most significant one first. -/
import Derived.Test.YtdbjfofnkijmoaaDoorRows
namespace Go.Proofs.YtdbjfofnkijmoaaDoor.Pk
set_option linter.unusedVariables false
set_option linter.unusedSimpArgs false

/-- What bytes are as a number. -/
def val (l : List UInt8) : Nat := l.foldl (fun a b => 256 * a + b.toNat) 0
theorem val_snoc (l : List UInt8) (b : UInt8) : val (l ++ [b]) = 256 * val l + b.toNat := by simp [val, List.foldl_append]
theorem val_acc : ∀ (l : List UInt8) (a : Nat), l.foldl (fun a b => 256 * a + b.toNat) a = a * 256 ^ l.length + val l
  | [], a => by simp [val]
  | b :: l, a => by
    rw [List.foldl_cons, val_acc l, show val (b :: l) = l.foldl (fun a b => 256 * a + b.toNat) (256 * 0 + b.toNat) from rfl, val_acc l, List.length_cons, Nat.pow_succ, Nat.mul_zero, Nat.zero_add, Nat.add_mul, Nat.mul_comm 256 a, Nat.mul_assoc, Nat.mul_comm 256, Nat.add_assoc]
theorem val_cons (b : UInt8) (l : List UInt8) : val (b :: l) = b.toNat * 256 ^ l.length + val l := by
  rw [show val (b :: l) = l.foldl (fun a b => 256 * a + b.toNat) (256 * 0 + b.toNat) from rfl, val_acc, Nat.mul_zero, Nat.zero_add]
theorem val_lt : ∀ l : List UInt8, val l < 256 ^ l.length
  | [] => by simp [val]
  | b :: l => by
    have ih := val_lt l
    have hb : b.toNat < 256 := b.toNat_lt
    rw [val_cons, List.length_cons, Nat.pow_succ]
    have : (b.toNat + 1) * 256 ^ l.length ≤ 256 * 256 ^ l.length := Nat.mul_le_mul_right _ (by omega)
    rw [Nat.add_mul, Nat.one_mul] at this
    rw [Nat.mul_comm (256 ^ l.length) 256]
    omega
/-- A number in w bytes. -/
def be (w n : Nat) : List UInt8 := (List.range w).map fun i => UInt8.ofNat (n / 256 ^ (w - 1 - i) % 256)
theorem be_length (w n : Nat) : (be w n).length = w := by simp [be]
theorem be_cons (w n : Nat) : be (w + 1) n = UInt8.ofNat (n / 256 ^ w % 256) :: be w n := by
  unfold be
  rw [List.range_succ_eq_map, List.map_cons, List.map_map]
  congr 1
  apply List.map_congr_left
  intro i _
  simp only [Function.comp]
  rw [show w + 1 - 1 - i.succ = w - 1 - i by omega]
theorem byte_nat (n : Nat) : (UInt8.ofNat (n % 256)).toNat = n % 256 := by
  rw [UInt8.toNat_ofNat_of_lt' (by show n % 256 < 256; omega)]
theorem val_be : ∀ w n, val (be w n) = n % 256 ^ w
  | 0, n => by simp [be, val, Nat.mod_one]
  | w + 1, n => by
    rw [be_cons, val_cons, be_length, val_be w n, byte_nat, Nat.pow_succ, Nat.mod_mul, Nat.mul_comm (n / 256 ^ w % 256), Nat.add_comm]
theorem be_congr : ∀ w {n m : Nat}, n % 256 ^ w = m % 256 ^ w → be w n = be w m
  | 0, n, m, _ => rfl
  | w + 1, n, m, h => by
    rw [Nat.pow_succ] at h
    rw [be_cons, be_cons, ← Nat.mod_mul_right_div_self, ← Nat.mod_mul_right_div_self, h, be_congr w (n := n) (m := m) (by
      rw [← Nat.mod_mul_right_mod n (256 ^ w) 256, ← Nat.mod_mul_right_mod m (256 ^ w) 256, h])]
theorem be_val : ∀ l : List UInt8, be l.length (val l) = l
  | [] => rfl
  | b :: l => by
    have h := val_lt l
    have hp : 0 < 256 ^ l.length := Nat.pow_pos (by decide)
    rw [List.length_cons, be_cons]
    congr 1
    · rw [val_cons, Nat.mul_comm, Nat.mul_add_div hp, Nat.div_eq_of_lt h, Nat.add_zero, Nat.mod_eq_of_lt b.toNat_lt]
      simp
    · rw [be_congr l.length (m := val l) (by rw [val_cons, Nat.mul_comm, Nat.mul_add_mod]), be_val l]
theorem val_be_lt {w n : Nat} (h : n < 256 ^ w) : val (be w n) = n := by rw [val_be, Nat.mod_eq_of_lt h]
theorem be_inj {w n m : Nat} (hn : n < 256 ^ w) (hm : m < 256 ^ w) (h : be w n = be w m) : n = m := by
  rw [← val_be_lt hn, h, val_be_lt hm]
/-- Numbers of one width rise as their texts do. -/
theorem be_rises : ∀ (w : Nat) {n m : Nat}, n < 256 ^ w → m < 256 ^ w → (be w n < be w m ↔ n < m)
  | 0, n, m, hn, hm => by
    simp at hn hm
    subst hn hm
    simp [be]
  | w + 1, n, m, hn, hm => by
    rw [Nat.pow_succ] at hn hm
    have hp : 0 < 256 ^ w := Nat.pow_pos (by decide)
    have a1 : n / 256 ^ w < 256 := Nat.div_lt_of_lt_mul hn
    have a2 : m / 256 ^ w < 256 := Nat.div_lt_of_lt_mul hm
    rw [be_cons, be_cons, Nat.mod_eq_of_lt a1, Nat.mod_eq_of_lt a2, List.cons_lt_cons_iff]
    have e1 := Nat.div_add_mod n (256 ^ w)
    have e2 := Nat.div_add_mod m (256 ^ w)
    have l1 := Nat.mod_lt n hp
    have l2 := Nat.mod_lt m hp
    have ih := be_rises w l1 l2
    rw [be_congr w (n := n % 256 ^ w) (m := n) (Nat.mod_mod _ _), be_congr w (n := m % 256 ^ w) (m := m) (Nat.mod_mod _ _)] at ih
    rw [ih]
    have c1 : (UInt8.ofNat (n / 256 ^ w) < UInt8.ofNat (m / 256 ^ w)) ↔ n / 256 ^ w < m / 256 ^ w := by
      rw [UInt8.lt_iff_toNat_lt, UInt8.toNat_ofNat_of_lt' a1, UInt8.toNat_ofNat_of_lt' a2]
    have c2 : (UInt8.ofNat (n / 256 ^ w) = UInt8.ofNat (m / 256 ^ w)) ↔ n / 256 ^ w = m / 256 ^ w := by
      rw [← UInt8.toNat_inj, UInt8.toNat_ofNat_of_lt' a1, UInt8.toNat_ofNat_of_lt' a2]
    rw [c1, c2]
    constructor
    · rintro (h | ⟨h1, h2⟩)
      · exact Nat.lt_of_not_le fun hle => by have := Nat.div_le_div_right (c := 256 ^ w) hle; omega
      · rw [← e1, ← e2, h1]; omega
    · intro h
      have := Nat.div_le_div_right (c := 256 ^ w) (Nat.le_of_lt h)
      rcases Nat.lt_or_eq_of_le this with h1 | h1
      · exact .inl h1
      · refine .inr ⟨h1, ?_⟩
        rw [← e1, ← e2, h1] at h
        omega
/-- A text with noughts behind it. -/
def padL (p : List UInt8) (n : Nat) : List UInt8 := p ++ List.replicate (n - p.length) 0
theorem pad_length {p : List UInt8} {n : Nat} (h : p.length ≤ n) : (padL p n).length = n := by simp [padL]; omega
theorem pad_full {p : List UInt8} {n : Nat} (h : p.length = n) : padL p n = p := by simp [padL, h]
theorem pad_pad {p : List UInt8} {n : Nat} (h : p.length ≤ n) : padL (padL p n) n = padL p n := pad_full (pad_length h)
end Go.Proofs.YtdbjfofnkijmoaaDoor.Pk
