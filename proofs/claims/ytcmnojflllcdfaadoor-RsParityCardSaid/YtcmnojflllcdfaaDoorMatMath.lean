/- Matrices over the field with 256 elements: plain mathematics, no program. -/
import Derived.Test.YtcmnojflllcdfaaDoorGfMath
namespace Go.Proofs.YtcmnojflllcdfaaDoor.Mx
open Go.Proofs.YtcmnojflllcdfaaDoor
set_option linter.unusedVariables false

/-- The field's elements. -/
def F : Type := Fin 256
def F.mk (n : Nat) (h : n < 256) : F := ⟨n, h⟩
def F.v (a : F) : Nat := Fin.val a
theorem F.lt (a : F) : a.v < 256 := Fin.isLt a
theorem F.ext {a b : F} (h : a.v = b.v) : a = b := Fin.eq_of_val_eq h
instance : DecidableEq F := inferInstanceAs (DecidableEq (Fin 256))
instance : OfNat F 0 := ⟨F.mk 0 (by decide)⟩
instance : OfNat F 1 := ⟨F.mk 1 (by decide)⟩
instance : Add F := ⟨fun a b => F.mk (a.v ^^^ b.v) (Gf.xor_lt a.lt b.lt)⟩
instance : Mul F := ⟨fun a b => F.mk (Gf.gm a.v b.v) (Gf.gm_lt _ _)⟩
def F.inv (a : F) : F := F.mk (Gf.gi a.v) (Gf.gi_lt _)
theorem v_mk (n : Nat) (h : n < 256) : (F.mk n h).v = n := rfl
theorem v_add (a b : F) : (a + b).v = a.v ^^^ b.v := rfl
theorem v_mul (a b : F) : (a * b).v = Gf.gm a.v b.v := rfl
theorem v_zero : (0 : F).v = 0 := rfl
theorem v_one : (1 : F).v = 1 := rfl
theorem v_inv (a : F) : a.inv.v = Gf.gi a.v := rfl
theorem add_comm (a b : F) : a + b = b + a := F.ext (Nat.xor_comm _ _)
theorem add_assoc (a b c : F) : a + b + c = a + (b + c) := F.ext (Nat.xor_assoc _ _ _)
theorem add_left_comm (a b c : F) : a + (b + c) = b + (a + c) := by rw [← add_assoc, add_comm a, add_assoc]
theorem add_self (a : F) : a + a = 0 := F.ext (Nat.xor_self _)
theorem add_zero (a : F) : a + 0 = a := F.ext (Nat.xor_zero _)
theorem zero_add (a : F) : 0 + a = a := F.ext (Nat.zero_xor _)
theorem add_add (a b : F) : a + (a + b) = b := by rw [← add_assoc, add_self, zero_add]
theorem mul_comm (a b : F) : a * b = b * a := F.ext (Gf.gm_comm _ _)
theorem mul_assoc (a b c : F) : a * b * c = a * (b * c) := F.ext (Gf.gm_assoc _ _ _)
theorem mul_left_comm (a b c : F) : a * (b * c) = b * (a * c) := by rw [← mul_assoc, mul_comm a, mul_assoc]
theorem mul_zero (a : F) : a * 0 = 0 := F.ext (Gf.gm_zero_right a.v)
theorem zero_mul (a : F) : 0 * a = 0 := F.ext (Gf.gm_zero_left a.v)
theorem mul_one (a : F) : a * 1 = a := F.ext (Gf.gm_one a.lt)
theorem one_mul (a : F) : 1 * a = a := by rw [mul_comm, mul_one]
theorem mul_add (a b c : F) : a * (b + c) = a * b + a * c := F.ext (Gf.gm_xor a.lt b.lt c.lt)
theorem add_mul (a b c : F) : (a + b) * c = a * c + b * c := by rw [mul_comm, mul_add, mul_comm c, mul_comm c]
theorem ne_v {a : F} (h : a ≠ 0) : a.v ≠ 0 := fun e => h (F.ext e)
theorem mul_inv {a : F} (h : a ≠ 0) : a * a.inv = 1 := F.ext (Gf.gm_gi (ne_v h) a.lt)
theorem inv_mul {a : F} (h : a ≠ 0) : a.inv * a = 1 := by rw [mul_comm, mul_inv h]
theorem mul_eq_zero {a b : F} (h : a * b = 0) : a = 0 ∨ b = 0 := by
  have : Gf.gm a.v b.v = 0 := congrArg F.v h
  rcases Gf.gm_eq_zero.1 this with h | h
  · exact .inl (F.ext h)
  · exact .inr (F.ext h)
theorem one_ne : (1 : F) ≠ 0 := fun h => absurd (congrArg F.v h) (by decide)
theorem eq_of_add {a b : F} (h : a + b = 0) : a = b := by
  have : a + b + b = 0 + b := by rw [h]
  rwa [add_assoc, add_self, add_zero, zero_add] at this

/-- The sum of the first n. -/
def S : Nat → (Nat → F) → F
  | 0, _ => 0
  | n + 1, f => S n f + f n
theorem S_zero (f : Nat → F) : S 0 f = 0 := rfl
theorem S_succ (n : Nat) (f : Nat → F) : S (n + 1) f = S n f + f n := rfl
theorem S_congr {n : Nat} {f g : Nat → F} (h : ∀ k, k < n → f k = g k) : S n f = S n g := by
  induction n with
  | zero => rfl
  | succ n ih => rw [S_succ, S_succ, ih (fun k hk => h k (by omega)), h n (by omega)]
theorem S_nought {n : Nat} {f : Nat → F} (h : ∀ k, k < n → f k = 0) : S n f = 0 := by
  induction n with
  | zero => rfl
  | succ n ih => rw [S_succ, ih (fun k hk => h k (by omega)), h n (by omega), add_zero]
theorem S_add (n : Nat) (f g : Nat → F) : S n (fun k => f k + g k) = S n f + S n g := by
  induction n with
  | zero => rw [S_zero, S_zero, S_zero, add_zero]
  | succ n ih => rw [S_succ, S_succ, S_succ, ih, add_assoc, add_assoc, add_left_comm (S n g)]
theorem S_mul (n : Nat) (a : F) (f : Nat → F) : S n (fun k => a * f k) = a * S n f := by
  induction n with
  | zero => rw [S_zero, S_zero, mul_zero]
  | succ n ih => rw [S_succ, S_succ, ih, mul_add]
theorem S_mul_right (n : Nat) (a : F) (f : Nat → F) : S n (fun k => f k * a) = S n f * a := by
  rw [mul_comm, ← S_mul]; exact S_congr fun k _ => mul_comm _ _
theorem S_comm (n m : Nat) (f : Nat → Nat → F) : S n (fun i => S m (fun j => f i j)) = S m (fun j => S n (fun i => f i j)) := by
  induction n with
  | zero => exact (S_nought fun _ _ => rfl).symm
  | succ n ih => rw [S_succ, ih, ← S_add]; rfl
theorem S_one {n i : Nat} (h : i < n) {f : Nat → F} (h0 : ∀ k, k < n → k ≠ i → f k = 0) : S n f = f i := by
  induction n with
  | zero => omega
  | succ n ih =>
    rw [S_succ]
    by_cases e : i = n
    · subst e; rw [S_nought (fun k hk => h0 k (by omega) (by omega)), zero_add]
    · rw [ih (by omega) (fun k hk hne => h0 k (by omega) hne), h0 n (by omega) (by omega), add_zero]
theorem S_add_nat (n m : Nat) (f : Nat → F) : S (n + m) f = S n f + S m (fun k => f (n + k)) := by
  induction m with
  | zero => rw [S_zero, add_zero]; rfl
  | succ m ih => rw [← Nat.add_assoc, S_succ, S_succ, ih, add_assoc]

abbrev M := Nat → Nat → F
def mul (n : Nat) (A B : M) : M := fun i j => S n fun k => A i k * B k j
def one : M := fun i j => if i = j then 1 else 0
/-- Alike in the first n rows and m places. -/
def Eqm (n m : Nat) (A B : M) : Prop := ∀ i j, i < n → j < m → A i j = B i j
theorem one_self (i : Nat) : one i i = 1 := if_pos rfl
theorem one_other {i j : Nat} (h : i ≠ j) : one i j = 0 := if_neg h
theorem mmul_assoc (n p : Nat) (A B C : M) : mul p (mul n A B) C = mul n A (mul p B C) := by
  funext i j
  show S p (fun k => S n (fun l => A i l * B l k) * C k j) = S n (fun l => A i l * S p (fun k => B l k * C k j))
  rw [S_congr (g := fun k => S n (fun l => A i l * B l k * C k j)) (fun k _ => (S_mul_right _ _ _).symm), S_comm]
  refine S_congr fun l _ => ?_
  rw [← S_mul]
  exact S_congr fun k _ => mul_assoc _ _ _
theorem one_mul_at {n : Nat} (A : M) {i : Nat} (h : i < n) (j : Nat) : mul n one A i j = A i j := by
  show S n (fun k => one i k * A k j) = _
  rw [S_one h (fun k _ hk => by rw [one_other (Ne.symm hk), zero_mul]), one_self, one_mul]
theorem mul_one_at {n : Nat} (A : M) (i : Nat) {j : Nat} (h : j < n) : mul n A one i j = A i j := by
  show S n (fun k => A i k * one k j) = _
  rw [S_one h (fun k _ hk => by rw [one_other hk, mul_zero]), one_self, mul_one]
theorem mul_congr {n : Nat} {A A' B B' : M} {i j : Nat} (hA : ∀ k, k < n → A i k = A' i k) (hB : ∀ k, k < n → B k j = B' k j) : mul n A B i j = mul n A' B' i j :=
  S_congr fun k hk => by rw [hA k hk, hB k hk]

/-- What stands between the rows that are worked on, A on the left and what it was made by on the right. -/
structure Inv (n : Nat) (A : M) (R' : M) (X : M) : Prop where
  left : ∀ i j, i < n → j < n → X i j = mul n (fun i k => X i (n + k)) A i j
  back : ∀ i j, i < n → j < n → mul n R' X i j = A i j
  unit : ∀ i j, i < n → j < n → mul n R' X i (n + j) = one i j
theorem Inv.start {n : Nat} {A X : M} (h1 : ∀ i j, i < n → j < n → X i j = A i j) (h2 : ∀ i j, i < n → j < n → X i (n + j) = one i j) : Inv n A one X where
  left := fun i j hi hj => by
    rw [mul_congr (A' := one) (B' := A) (fun k hk => h2 i k hi hk) (fun _ _ => rfl), one_mul_at _ hi, h1 i j hi hj]
  back := fun i j hi hj => by rw [one_mul_at _ hi, h1 i j hi hj]
  unit := fun i j hi hj => by rw [one_mul_at _ hi, h2 i j hi hj]
/-- A change of rows that can be undone. -/
theorem Inv.step {n : Nat} {A R' X : M} (h : Inv n A R' X) (E G Y : M) (hY : ∀ i j, i < n → j < n + n → Y i j = mul n E X i j) (hG : ∀ i j, i < n → j < n → mul n G E i j = one i j) : Inv n A (mul n R' G) Y := by
  have key : ∀ i j, i < n → j < n + n → mul n (mul n R' G) Y i j = mul n R' X i j := fun i j hi hj => by
    rw [mul_congr (A' := mul n R' G) (B' := mul n E X) (fun _ _ => rfl) (fun k hk => hY k j hk hj), mmul_assoc, ← mmul_assoc n n G E X]
    refine mul_congr (fun _ _ => rfl) fun k hk => ?_
    rw [mul_congr (A' := one) (B' := X) (fun l hl => hG k l hk hl) (fun _ _ => rfl), one_mul_at _ hk]
  refine ⟨fun i j hi hj => ?_, fun i j hi hj => ?_, fun i j hi hj => ?_⟩
  · rw [hY i j hi (by omega), mul_congr (A' := E) (B' := mul n (fun i k => X i (n + k)) A) (fun _ _ => rfl) (fun k hk => h.left k j hk hj), ← mmul_assoc]
    refine mul_congr (fun k hk => ?_) (fun _ _ => rfl)
    rw [hY i (n + k) hi (by omega)]; rfl
  · rw [key i j hi (by omega)]; exact h.back i j hi hj
  · rw [key i (n + j) hi (by omega)]; exact h.unit i j hi hj
/-- Two rows change places. -/
def swp (a b : Nat) (i : Nat) : Nat := if i = a then b else if i = b then a else i
theorem swp_swp (a b i : Nat) : swp a b (swp a b i) = i := by
  unfold swp
  by_cases h1 : i = a
  · subst h1; rw [if_pos rfl]
    by_cases h2 : b = i
    · rw [if_pos h2]; exact h2
    · rw [if_neg h2, if_pos rfl]
  · rw [if_neg h1]
    by_cases h2 : i = b
    · subst h2; rw [if_pos rfl, if_pos rfl]
    · rw [if_neg h2, if_neg h1, if_neg h2]
theorem swp_lt {a b i n : Nat} (ha : a < n) (hb : b < n) (hi : i < n) : swp a b i < n := by
  unfold swp; split
  · exact hb
  · split
    · exact ha
    · exact hi
theorem Inv.swap {n : Nat} {A R' X : M} (h : Inv n A R' X) {a b : Nat} (ha : a < n) (hb : b < n) {Y : M} (hY : ∀ i j, i < n → j < n + n → Y i j = X (swp a b i) j) : ∃ R, Inv n A R Y := by
  refine ⟨_, h.step (fun i k => one (swp a b i) k) (fun i k => one (swp a b i) k) Y (fun i j hi hj => ?_) (fun i j hi hj => ?_)⟩
  · rw [hY i j hi hj]
    show _ = S n (fun k => one (swp a b i) k * X k j)
    rw [S_one (swp_lt ha hb hi) (fun k _ hk => by rw [one_other (Ne.symm hk), zero_mul]), one_self, one_mul]
  · show S n (fun k => one (swp a b i) k * one (swp a b k) j) = _
    rw [S_one (swp_lt ha hb hi) (fun k _ hk => by rw [one_other (Ne.symm hk), zero_mul]), one_self, one_mul, swp_swp]
/-- A place is made 1 in its own row, and nought in all others. -/
theorem Inv.clear {n : Nat} {A R' X : M} (h : Inv n A R' X) {c : Nat} (hc : c < n) (hx : X c c ≠ 0) {Y : M} (hY1 : ∀ j, j < n + n → Y c j = (X c c).inv * X c j) (hY2 : ∀ i j, i < n → j < n + n → i ≠ c → Y i j = X i j + X i c * ((X c c).inv * X c j)) : ∃ R, Inv n A R Y := by
  refine ⟨_, h.step (fun i k => if i = c then (if k = c then (X c c).inv else 0) else one i k + (if k = c then X i c * (X c c).inv else 0))
    (fun i k => if i = c then (if k = c then X c c else 0) else one i k + (if k = c then X i c else 0)) Y (fun i j hi hj => ?_) (fun i j hi hj => ?_)⟩
  · show _ = S n (fun k => (if i = c then (if k = c then (X c c).inv else 0) else one i k + (if k = c then X i c * (X c c).inv else 0)) * X k j)
    by_cases e : i = c
    · subst e
      rw [hY1 j hj, S_one hi (fun k _ hk => by rw [if_pos rfl, if_neg hk, zero_mul]), if_pos rfl, if_pos rfl]
    · rw [hY2 i j hi hj e, S_congr (g := fun k => one i k * X k j + (if k = c then X i c * (X c c).inv else 0) * X k j) (fun k _ => by rw [if_neg e, add_mul]), S_add,
        S_one hi (fun k _ hk => by rw [one_other (Ne.symm hk), zero_mul]), S_one hc (fun k _ hk => by rw [if_neg hk, zero_mul]), one_self, one_mul, if_pos rfl, mul_assoc]
  · show S n (fun k => (if i = c then (if k = c then X c c else 0) else one i k + (if k = c then X i c else 0)) * (if k = c then (if j = c then (X c c).inv else 0) else one k j + (if j = c then X k c * (X c c).inv else 0))) = _
    by_cases e : i = c
    · subst e
      rw [S_one hi (fun k _ hk => by rw [if_pos rfl, if_neg hk, zero_mul]), if_pos rfl, if_pos rfl, if_pos rfl]
      by_cases ej : j = i
      · subst ej; rw [if_pos rfl, mul_inv hx, one_self]
      · rw [if_neg ej, mul_zero, one_other (Ne.symm ej)]
    · rw [S_congr (g := fun k => one i k * (if k = c then (if j = c then (X c c).inv else 0) else one k j + (if j = c then X k c * (X c c).inv else 0)) + (if k = c then X i c else 0) * (if k = c then (if j = c then (X c c).inv else 0) else one k j + (if j = c then X k c * (X c c).inv else 0))) (fun k _ => by rw [if_neg e, add_mul]), S_add,
        S_one hi (fun k _ hk => by rw [one_other (Ne.symm hk), zero_mul]), S_one hc (fun k _ hk => by rw [if_neg hk, zero_mul]), one_self, one_mul, if_neg e, if_pos rfl, if_pos rfl]
      by_cases ej : j = c
      · subst ej; rw [if_pos rfl, if_pos rfl, add_assoc, add_self, add_zero]
      · rw [if_neg ej, if_neg ej, mul_zero, add_zero, add_zero]
/-- All columns are done: from either side. -/
theorem Inv.done {n : Nat} {A R' X : M} (h : Inv n A R' X) (h1 : ∀ i j, i < n → j < n → X i j = one i j) :
    (∀ i j, i < n → j < n → mul n (fun i k => X i (n + k)) A i j = one i j) ∧ (∀ i j, i < n → j < n → mul n A (fun i k => X i (n + k)) i j = one i j) := by
  have hR : ∀ i j, i < n → j < n → R' i j = A i j := fun i j hi hj => by
    have e := h.back i j hi hj
    rw [mul_congr (A' := R') (B' := one) (fun _ _ => rfl) (fun k hk => h1 k j hk hj), mul_one_at _ _ hj] at e
    exact e
  refine ⟨fun i j hi hj => by rw [← h.left i j hi hj, h1 i j hi hj], fun i j hi hj => ?_⟩
  rw [← h.unit i j hi hj]
  exact mul_congr (fun k hk => (hR i k hi hk).symm) (fun _ _ => rfl)
/-- A column cannot be done: something that is not nought becomes nought. -/
theorem Inv.stuck {n : Nat} {A R' X : M} (h : Inv n A R' X) {c : Nat} (hc : c < n) (h1 : ∀ i j, i < n → j < c → X i j = one i j) (h2 : ∀ i, c ≤ i → i < n → X i c = 0) :
    ∃ v : Nat → F, v c = 1 ∧ ∀ i, i < n → S n (fun k => A i k * v k) = 0 := by
  refine ⟨fun k => if k = c then 1 else if k < c then X k c else 0, if_pos rfl, fun i hi => ?_⟩
  have hX : ∀ l, l < n → S n (fun k => X l k * (if k = c then 1 else if k < c then X k c else 0)) = 0 := fun l hl => by
    rw [S_congr (g := fun k => (if k = c then X l c else 0) + (if k < c then one l k * X k c else 0)) (fun k hk => by
      by_cases e : k = c
      · subst e; rw [if_pos rfl, if_pos rfl, if_neg (by omega), mul_one, add_zero]
      · rw [if_neg e, if_neg e, zero_add]
        by_cases e2 : k < c
        · rw [if_pos e2, if_pos e2, h1 l k hl e2]
        · rw [if_neg e2, if_neg e2, mul_zero]), S_add, S_one hc (fun k _ hk => by rw [if_neg hk]), if_pos rfl]
    by_cases e : l < c
    · rw [S_one (i := l) hl (fun k _ hk => by
        by_cases e2 : k < c
        · rw [if_pos e2, one_other (Ne.symm hk), zero_mul]
        · rw [if_neg e2]), if_pos e, one_self, one_mul, add_self]
    · rw [h2 l (by omega) hl, zero_add, S_nought (fun k hk => by
        by_cases e2 : k < c
        · rw [if_pos e2, one_other (by omega), zero_mul]
        · rw [if_neg e2])]
  rw [S_congr (g := fun k => S n (fun l => R' i l * (X l k * (if k = c then 1 else if k < c then X k c else 0)))) (fun k hk => by
    rw [← h.back i k hi hk, mul, ← S_mul_right]; exact S_congr fun l _ => mul_assoc _ _ _), S_comm]
  exact S_nought fun l hl => by rw [S_mul, hX l hl, mul_zero]

/-- What undoes from the left undoes nothing to nought. -/
theorem no_kernel {n : Nat} {A B : M} (h : ∀ i j, i < n → j < n → mul n B A i j = one i j) {v : Nat → F} (hv : ∀ i, i < n → S n (fun k => A i k * v k) = 0) {c : Nat} (hc : c < n) : v c = 0 := by
  have e : S n (fun k => mul n B A c k * v k) = v c := by
    rw [S_congr (g := fun k => one c k * v k) (fun k hk => by rw [h c k hc hk]), S_one hc (fun k _ hk => by rw [one_other (Ne.symm hk), zero_mul]), one_self, one_mul]
  rw [← e, S_congr (g := fun k => S n (fun l => B c l * (A l k * v k))) (fun k _ => by rw [mul, ← S_mul_right]; exact S_congr fun l _ => mul_assoc _ _ _), S_comm]
  exact S_nought fun l hl => by rw [S_mul, hv l hl, mul_zero]
/-- What undoes from the right undoes nothing to nought. -/
theorem no_cokernel {n : Nat} {A B : M} (h : ∀ i j, i < n → j < n → mul n A B i j = one i j) {u : Nat → F} (hu : ∀ j, j < n → S n (fun k => u k * A k j) = 0) {c : Nat} (hc : c < n) : u c = 0 := by
  have e : S n (fun k => u k * mul n A B k c) = u c := by
    rw [S_congr (g := fun k => u k * one k c) (fun k hk => by rw [h k c hk hc]), S_one hc (fun k _ hk => by rw [one_other hk, mul_zero]), one_self, mul_one]
  rw [← e, S_congr (g := fun k => S n (fun l => u k * A k l * B l c)) (fun k _ => by rw [mul, ← S_mul]; exact S_congr fun l _ => (mul_assoc _ _ _).symm), S_comm]
  exact S_nought fun l hl => by rw [S_mul_right, hu l hl, zero_mul]
/-- There is one inverse: what undoes from the left is what undoes from the right. -/
theorem inv_one {n : Nat} {A B C : M} (h1 : ∀ i j, i < n → j < n → mul n B A i j = one i j) (h2 : ∀ i j, i < n → j < n → mul n A C i j = one i j) : ∀ i j, i < n → j < n → B i j = C i j := fun i j hi hj => by
  rw [← mul_one_at (n := n) B i hj, mul_congr (A' := B) (B' := mul n A C) (fun _ _ => rfl) (fun k hk => (h2 k j hk hj).symm), ← mmul_assoc,
    mul_congr (A' := one) (B' := C) (fun k hk => h1 i k hi hk) (fun _ _ => rfl), one_mul_at _ hi]

/-! Cauchy's matrices. -/
/-- If what is nought at all of n unlike x has n unlike y, it is nought. -/
theorem cauchy_kernel : ∀ (n : Nat) (x y v : Nat → F), (∀ i j, i < n → j < n → i ≠ j → x i ≠ x j) → (∀ i j, i < n → j < n → i ≠ j → y i ≠ y j) → (∀ i j, i < n → j < n → x i + y j ≠ 0) →
    (∀ i, i < n → S n (fun j => v j * (x i + y j).inv) = 0) → ∀ j, j < n → v j = 0
  | 0, _, _, _, _, _, _, _, j, hj => by omega
  | n + 1, x, y, v, hx, hy, hxy, hs, j, hj => by
    -- the last y goes first
    have hsum : ∀ i, i < n + 1 → S n (fun j => v j * ((y n + y j) * (x i + y j).inv)) = S (n + 1) v := fun i hi => by
      have h1 : (x i + y n) * S (n + 1) (fun j => v j * (x i + y j).inv) = 0 := by rw [hs i hi, mul_zero]
      rw [← S_mul, S_congr (g := fun j => v j + v j * ((y n + y j) * (x i + y j).inv)) (fun k hk => by
        have e : x i + y n = (x i + y k) + (y n + y k) := by rw [add_comm (y n), add_assoc, add_add]
        rw [e, add_mul, mul_left_comm (x i + y k), mul_inv (hxy i k hi hk), mul_one, mul_left_comm (y n + y k)]), S_add] at h1
      have h2 := eq_of_add h1
      rw [h2, S_succ, add_self, zero_mul, mul_zero, add_zero]
    have hz : ∀ k, k < n → v k * ((y n + y k) * (x n + y k).inv) = 0 := by
      refine cauchy_kernel n x y (fun k => v k * ((y n + y k) * (x n + y k).inv)) (fun i j hi hj => hx i j (by omega) (by omega)) (fun i j hi hj => hy i j (by omega) (by omega)) (fun i j hi hj => hxy i j (by omega) (by omega)) (fun i hi => ?_)
      have h1 : S n (fun k => v k * ((y n + y k) * (x i + y k).inv)) + S n (fun k => v k * ((y n + y k) * (x n + y k).inv)) = 0 := by
        rw [hsum i (by omega), hsum n (by omega), add_self]
      rw [← S_add, S_congr (g := fun k => (x i + x n) * (v k * ((y n + y k) * (x n + y k).inv) * (x i + y k).inv)) (fun k hk => by
        have e : (x i + y k).inv + (x n + y k).inv = (x i + x n) * ((x n + y k).inv * (x i + y k).inv) := by
          have e1 : x i + x n = (x i + y k) + (x n + y k) := by rw [add_comm (x n), add_assoc, add_add]
          rw [e1, add_mul, mul_left_comm (x i + y k), mul_inv (hxy i k (by omega) (by omega)), mul_one, ← mul_assoc (x n + y k), mul_inv (hxy n k (by omega) (by omega)), one_mul, add_comm]
        rw [← mul_add, ← mul_add, e, mul_left_comm (y n + y k), mul_left_comm (v k)]
        congr 1
        rw [mul_assoc, mul_assoc]), S_mul] at h1
      rcases mul_eq_zero h1 with h | h
      · exact absurd (eq_of_add h) (hx i n (by omega) (by omega) (by omega))
      · exact h
    have hv : ∀ k, k < n → v k = 0 := fun k hk => by
      rcases mul_eq_zero (hz k hk) with h | h
      · exact h
      · rcases mul_eq_zero h with h | h
        · exact absurd (eq_of_add h) (hy n k (by omega) (by omega) (by omega))
        · have e := mul_inv (hxy n k (by omega) (by omega))
          rw [h, mul_zero] at e
          exact absurd e.symm one_ne
    by_cases e : j = n
    · subst e
      have h1 := hs j (by omega)
      rw [S_one hj (fun k hk hne => by rw [hv k (by omega), zero_mul])] at h1
      rcases mul_eq_zero h1 with h | h
      · exact h
      · have e := mul_inv (hxy j j (by omega) (by omega))
        rw [h, mul_zero] at e
        exact absurd e.symm one_ne
    · exact hv j (by omega)
end Go.Proofs.YtcmnojflllcdfaaDoor.Mx
