import Derived.Test.YtjgafpkpoppcbaaGreatDoorLgf
import Derived.Test.YtjgafpkpoppcbaaGreatDoorShelf
import Derived.Lib.Hide
import Derived.Test.YtjgafpkpoppcbaaGreatDoorLbase
import Derived.OneCell
import Derived.WalkMore
import Derived.BigRegion
import Derived.BigQuiet
import Derived.Deep.QuietTactic
import Derived.WalkLawsBesides
import Derived.StillTailTactics
import Derived.Deep.RegionLaw
import Derived.Deep.RegionWith
set_option linter.unusedVariables false
set_option linter.unusedSimpArgs false
section
namespace Go.Proofs.YtjgafpkpoppcbaaGreatDoor
open Go.RowKit
def zrow (n : Nat) : ByteArray := ⟨(List.replicate n (0 : UInt8)).toArray⟩
theorem zrow_size (n : Nat) : (zrow n).size = n := by show (zrow n).data.size = n; simp [zrow]
theorem repeat_zero (n : Nat) : (⟨(Lib.repeatL [0] n).toArray⟩ : ByteArray) = zrow n := by
  have := Lib.repeatL_replicate 0 1 n
  simp only [List.replicate_one, Nat.mul_one] at this
  rw [this]; rfl
theorem zeros_any (n : Nat) (w : World) (h : n ≤ 140737488355328) :
    Calls Tryz.prog 170 #[.int .i64 (n : Int)] w fun e w' => e = .returned (.string (zrow n)) ∧ Below w.heap.size w w' := by
  have hr := fun W => Tryz.strings_Repeat ⟨#[0]⟩ n W (by omega) (by show 1 * n ≤ _; omega)
  rw [show (⟨(Lib.repeatL (⟨#[0]⟩ : ByteArray).data.toList n).toArray⟩ : ByteArray) = zrow n from repeat_zero n] at hr
  go_enter Tryz.func170, Tryz.ntmps170
  go_wp2_with (go_at_call 154; refine (hr _).mono ?_; rintro e w1 ⟨rfl, hb⟩)
  go_ret
  exact ⟨rfl, hb⟩
structure SRow (w : World) (b off : Nat) (l : List ByteArray) : Prop where
  cell : ∀ i, i < l.length → w.cell? ⟨b, off + i, none⟩ = some (.string (l.getD i ⟨#[]⟩))
  lt : b < w.heap.size
theorem SRow.below {w w' : World} {b off : Nat} {l : List ByteArray} (h : SRow w b off l) (hb : Below w.heap.size w w') : SRow w' b off l :=
  ⟨fun i hi => by rw [hb.cell (p := ⟨b, off + i, none⟩) h.lt]; exact h.cell i hi, Nat.lt_of_lt_of_le h.lt hb.size⟩
end Go.Proofs.YtjgafpkpoppcbaaGreatDoor
end
section
namespace Go.Proofs.YtjgafpkpoppcbaaGreatDoor
open Go.RowKit
theorem mulAdd_size (y x : ByteArray) (c : Nat) : (mulAdd y c x).size = y.size := by
  show (mulAdd y c x).data.size = _
  simp [mulAdd, lineOf, Gf.mix]
def comb (f : ByteArray) (l : List ByteArray) : Nat → ByteArray
  | 0 => zrow (l.getD 0 ⟨#[]⟩).size
  | k + 1 => mulAdd (comb f l k) (f.data[k]?.getD 0).toNat (l.getD k ⟨#[]⟩)
theorem comb_size (f : ByteArray) (l : List ByteArray) : ∀ k, (comb f l k).size = (l.getD 0 ⟨#[]⟩).size
  | 0 => by simp [comb, zrow_size]
  | k + 1 => by rw [comb, mulAdd_size, comb_size f l k]
set_option maxRecDepth 100000 in
set_option maxHeartbeats 1000000 in
theorem combine_any (f : ByteArray) (b off cap : Nat) (l : List ByteArray) (w : World) (ht : Tabs w) (hS : SRow w b off l) (hl : 1 ≤ l.length) (hL : l.length ≤ 1000) (hf : l.length ≤ f.size) (hF : f.size ≤ 1000000) (hm : ∀ i, i < l.length → (l.getD i ⟨#[]⟩).size ≤ 1000000) :
    Calls Tryz.prog 144 #[.string f, .slice (some ⟨b, off, none⟩) l.length cap] w fun e w' => e = .returned (.string (comb f l l.length)) ∧ Below w.heap.size w w' := by
  have h0 := hS.cell 0 (by omega)
  have hm0 := hm 0 (by omega)
  rw [Nat.add_zero] at h0
  have hC0 : comb f l 0 = zrow (l.getD 0 ⟨#[]⟩).size := rfl
  obtain ⟨r0, hr0⟩ : ∃ r, l.getD 0 ⟨#[]⟩ = r := ⟨_, rfl⟩
  rw [hr0] at h0 hm0 hC0
  have hsz : ∀ k, (comb f l k).size ≤ 1000000 := fun k => by rw [comb_size, hr0]; exact hm0
  go_enter Tryz.func144, Tryz.ntmps144
  go_wp2_with (go_at_call 170; refine (zeros_any _ _ (by omega)).mono ?_; rintro e w1 ⟨rfl, hb⟩)
  go_loopw [5, 6, 7, 15] (fun s _ _ i wr => ∃ k : Nat, k ≤ l.length ∧ i = .int .i64 (k : Int) ∧ s = .string (comb f l k) ∧ Below w.heap.size w wr) (fun _ _ _ i _ => l.length - (RowKit.intOf i).toNat)
  case atStart => exact ⟨0, by omega, rfl, by rw [hC0], hb⟩
  case round =>
    obtain ⟨k, hk, rfl, rfl, hbk⟩ := hrel
    by_cases hlt : k < l.length
    · have hc := (hS.below hbk).cell k hlt
      have hmk := hm k hlt
      have hsk := hsz k
      have hCk : comb f l (k + 1) = mulAdd (comb f l k) (f.data[k]?.getD 0).toNat (l.getD k ⟨#[]⟩) := rfl
      generalize l.getD k ⟨#[]⟩ = rk at *
      have htk : Tabs _ := ht.below hbk ht.two
      have b1 : (k : Int) < (l.length : Int) := by omega
      have b2 : (k : Int) < (f.size : Int) := by omega
      have hkf : k < f.size := by omega
      have c1 := UInt8.toNat_lt f[k]
      have hg : Hid (f.data[k]?.getD 0 = f[k]) := Lib.hid (by rw [Array.getElem?_eq_getElem (by simpa using hkf)]; rfl)
      go_wp2_with (go_at_call 169; refine (muladd_any _ _ _ _ htk (by omega) (by omega) (by unfold maxLen; omega) (by unfold maxLen; omega)).mono ?_; rintro e w2 ⟨rfl, hb2⟩)
      go_roundw
      case rel => exact ⟨k + 1, by omega, by go_num, by rw [hCk, hg.out], hbk.trans (hb2.mono hbk.size)⟩
      case measure => simp [RowKit.intOf]; omega
    · have e : k = l.length := by omega
      subst e
      go_wp2
      go_ret
      exact ⟨rfl, hbk⟩
def mR (l : List ByteArray) : Bool := decide (1 ≤ l.length ∧ l.length ≤ 16 ∧ 1 ≤ (l.getD 0 ⟨#[]⟩).size ∧ (l.getD 0 ⟨#[]⟩).size ≤ 4096) && l.all (fun r => r.size == (l.getD 0 ⟨#[]⟩).size)
set_option maxRecDepth 100000 in
set_option maxHeartbeats 1000000 in
theorem right_nil (w : World) (a0 : Option Addr) (c0 : Nat) :
    Calls Tryz.prog 139 #[.slice a0 0 c0] w fun e w' => e = .returned (.bool false) ∧ w = w' := by
  go_enter Tryz.func139, Tryz.ntmps139
  go_wp2
  go_ret
  exact ⟨rfl, rfl⟩
set_option maxRecDepth 100000 in
set_option maxHeartbeats 1000000 in
theorem mright_any (b off cap : Nat) (l : List ByteArray) (w : World) (hS : SRow w b off l) (hL : l.length ≤ 140737488355328) (hm : ∀ i, i < l.length → (l.getD i ⟨#[]⟩).size ≤ 140737488355328) :
    Calls Tryz.prog 139 #[.slice (some ⟨b, off, none⟩) l.length cap] w fun e w' => e = .returned (.bool (mR l)) ∧ w = w' := by
  by_cases h1 : 1 ≤ l.length
  · by_cases h2 : l.length ≤ 16
    · have t1 : decide ((l.length : Int) < 1) = false := by simp; omega
      have t2 : decide (16 < (l.length : Int)) = false := by simp; omega
      have h0 := hS.cell 0 (by omega)
      have hm0 := hm 0 (by omega)
      rw [Nat.add_zero] at h0
      obtain ⟨r0, hr0⟩ : ∃ r, l.getD 0 ⟨#[]⟩ = r := ⟨_, rfl⟩
      rw [hr0] at h0 hm0
      go_enter Tryz.func139, Tryz.ntmps139
      go_wp2
      go_loopw [5, 20] (fun _ i wr => ∃ k : Nat, k ≤ l.length ∧ i = .int .i64 (k : Int) ∧ w = wr ∧ ∀ j, j < k → (l.getD j ⟨#[]⟩).size = r0.size) (fun _ i _ => l.length - (RowKit.intOf i).toNat)
      case atStart => exact ⟨0, by omega, rfl, rfl, fun j hj => by omega⟩
      case round =>
        obtain ⟨k, hk, rfl, rfl, hj⟩ := hrel
        by_cases hlt : k < l.length
        · have hc := hS.cell k hlt
          have hmk := hm k hlt
          have b1 : (k : Int) < (l.length : Int) := by omega
          by_cases he : (l.getD k ⟨#[]⟩).size = r0.size
          · obtain ⟨rk, hrk⟩ : ∃ r, l.getD k ⟨#[]⟩ = r := ⟨_, rfl⟩
            have hrk' := Lib.hid hrk
            have hj' : Hid (∀ j, j < k + 1 → (l.getD j ⟨#[]⟩).size = r0.size) := Lib.hid (fun j hjk => by
              by_cases e : j = k
              · subst e; exact he
              · exact hj j (by omega))
            rw [hrk] at hc hmk he
            have e3 : (((rk.size : Nat) : Int) != ((r0.size : Nat) : Int)) = false := by simp [he]
            clear hj hrk hr0
            go_wp2
            go_roundw
            case rel => exact ⟨k + 1, by omega, by go_num, (by first | rfl | trivial), hj'.out⟩
            case measure => simp [RowKit.intOf]; omega
          · have hz : Hid (mR l = false) := Lib.hid (by
              unfold mR; rw [Bool.and_eq_false_iff]; right
              rw [List.all_eq_false]
              refine ⟨l.getD k ⟨#[]⟩, ?_, ?_⟩
              · rw [List.getD_eq_getElem?_getD, List.getElem?_eq_getElem hlt]; exact List.getElem_mem hlt
              · rw [hr0]; simpa using he)
            obtain ⟨rk, hrk⟩ : ∃ r, l.getD k ⟨#[]⟩ = r := ⟨_, rfl⟩
            rw [hrk] at hc hmk he
            have e3 : (((rk.size : Nat) : Int) != ((r0.size : Nat) : Int)) = true := by simp; omega
            clear hj hrk hr0
            go_wp2
            go_ret
            exact ⟨by rw [hz.out]; rfl, rfl⟩
        · have e : k = l.length := by omega
          subst e
          have hz : Hid (mR l = (decide ((1 : Int) ≤ (r0.size : Int)) && decide ((r0.size : Int) ≤ 4096))) := Lib.hid (by
            have ha : l.all (fun r => r.size == (l.getD 0 ⟨#[]⟩).size) = true := by
              rw [List.all_eq_true]; intro r hr
              obtain ⟨j, hj1, rfl⟩ := List.getElem_of_mem hr
              have := hj j hj1
              rw [List.getD_eq_getElem?_getD, List.getElem?_eq_getElem hj1] at this
              rw [hr0]; simpa using this
            unfold mR; rw [ha, Bool.and_true, hr0, Bool.eq_iff_iff]; simp only [Bool.and_eq_true, decide_eq_true_eq]; omega)
          clear hj hr0
          cases s1 : decide ((1 : Int) ≤ (r0.size : Int))
          all_goals
            cases s2 : decide ((r0.size : Int) ≤ 4096)
            all_goals
              go_wp2
              go_ret
              exact ⟨by rw [hz.out, s1, s2]; rfl, rfl⟩
    · have hz : Hid (mR l = false) := Lib.hid (by unfold mR; rw [decide_eq_false (by omega)]; rfl)
      have t1 : decide ((l.length : Int) < 1) = false := by simp; omega
      have t2 : decide (16 < (l.length : Int)) = true := by simp; omega
      go_enter Tryz.func139, Tryz.ntmps139
      go_wp2
      go_ret
      exact ⟨by rw [hz.out]; rfl, rfl⟩
  · have hz : Hid (mR l = false) := Lib.hid (by unfold mR; rw [decide_eq_false (by omega)]; rfl)
    have t1 : decide ((l.length : Int) < 1) = true := by simp; omega
    go_enter Tryz.func139, Tryz.ntmps139
    go_wp2
    go_ret
    exact ⟨by rw [hz.out]; rfl, rfl⟩
end Go.Proofs.YtjgafpkpoppcbaaGreatDoor
end
section
namespace Go.Proofs.YtjgafpkpoppcbaaGreatDoor.Mx
open Go.Proofs.YtjgafpkpoppcbaaGreatDoor
def F : Type := Fin 256
def F.mk (n : Nat) (h : n < 256) : F := ⟨n, h⟩
def F.v (a : F) : Nat := Fin.val a
theorem F.lt (a : F) : a.v < 256 := Fin.isLt a
theorem F.ext {a b : F} (h : a.v = b.v) : a = b := Fin.eq_of_val_eq h
instance : DecidableEq F := inferInstanceAs (DecidableEq (Fin 256))
instance : OfNat F 0 := ⟨F.mk 0 (by decide)⟩
instance : OfNat F 1 := ⟨F.mk 1 (by decide)⟩
instance : Add F := ⟨fun a b => F.mk (a.v ^^^ b.v) (Gf.xor_lt a.lt b.lt)⟩
instance : Mul F := ⟨fun a b => F.mk (Gf.gm a.v b.v) (Gf.gm_lt _ _)⟩
def F.inv (a : F) : F := F.mk (Gf.gi a.v) (Gf.gi_lt _)
theorem v_mk (n : Nat) (h : n < 256) : (F.mk n h).v = n := rfl
theorem v_add (a b : F) : (a + b).v = a.v ^^^ b.v := rfl
theorem v_zero : (0 : F).v = 0 := rfl
theorem v_inv (a : F) : a.inv.v = Gf.gi a.v := rfl
theorem add_comm (a b : F) : a + b = b + a := F.ext (Nat.xor_comm _ _)
theorem add_assoc (a b c : F) : a + b + c = a + (b + c) := F.ext (Nat.xor_assoc _ _ _)
theorem add_left_comm (a b c : F) : a + (b + c) = b + (a + c) := by rw [← add_assoc, add_comm a, add_assoc]
theorem add_self (a : F) : a + a = 0 := F.ext (Nat.xor_self _)
theorem add_zero (a : F) : a + 0 = a := F.ext (Nat.xor_zero _)
theorem zero_add (a : F) : 0 + a = a := F.ext (Nat.zero_xor _)
theorem add_add (a b : F) : a + (a + b) = b := by rw [← add_assoc, add_self, zero_add]
theorem mul_comm (a b : F) : a * b = b * a := F.ext (Gf.gm_comm _ _)
theorem mul_assoc (a b c : F) : a * b * c = a * (b * c) := F.ext (Gf.gm_assoc _ _ _)
theorem mul_left_comm (a b c : F) : a * (b * c) = b * (a * c) := by rw [← mul_assoc, mul_comm a, mul_assoc]
theorem mul_zero (a : F) : a * 0 = 0 := F.ext (Gf.gm_zero_right a.v)
theorem zero_mul (a : F) : 0 * a = 0 := F.ext (Gf.gm_zero_left a.v)
theorem mul_one (a : F) : a * 1 = a := F.ext (Gf.gm_one a.lt)
theorem one_mul (a : F) : 1 * a = a := by rw [mul_comm, mul_one]
theorem mul_add (a b c : F) : a * (b + c) = a * b + a * c := F.ext (Gf.gm_xor a.lt b.lt c.lt)
theorem add_mul (a b c : F) : (a + b) * c = a * c + b * c := by rw [mul_comm, mul_add, mul_comm c, mul_comm c]
theorem ne_v {a : F} (h : a ≠ 0) : a.v ≠ 0 := fun e => h (F.ext e)
theorem mul_inv {a : F} (h : a ≠ 0) : a * a.inv = 1 := F.ext (Gf.gm_gi (ne_v h) a.lt)
theorem inv_mul {a : F} (h : a ≠ 0) : a.inv * a = 1 := by rw [mul_comm, mul_inv h]
theorem mul_eq_zero {a b : F} (h : a * b = 0) : a = 0 ∨ b = 0 := by
  have : Gf.gm a.v b.v = 0 := congrArg F.v h
  rcases Gf.gm_eq_zero.1 this with h | h
  · exact .inl (F.ext h)
  · exact .inr (F.ext h)
theorem one_ne : (1 : F) ≠ 0 := fun h => absurd (congrArg F.v h) (by decide)
theorem eq_of_add {a b : F} (h : a + b = 0) : a = b := by
  have : a + b + b = 0 + b := by rw [h]
  rwa [add_assoc, add_self, add_zero, zero_add] at this
def S : Nat → (Nat → F) → F
  | 0, _ => 0
  | n + 1, f => S n f + f n
theorem S_zero (f : Nat → F) : S 0 f = 0 := rfl
theorem S_succ (n : Nat) (f : Nat → F) : S (n + 1) f = S n f + f n := rfl
theorem S_congr {n : Nat} {f g : Nat → F} (h : ∀ k, k < n → f k = g k) : S n f = S n g := by
  induction n with
  | zero => rfl
  | succ n ih => rw [S_succ, S_succ, ih (fun k hk => h k (by omega)), h n (by omega)]
theorem S_nought {n : Nat} {f : Nat → F} (h : ∀ k, k < n → f k = 0) : S n f = 0 := by
  induction n with
  | zero => rfl
  | succ n ih => rw [S_succ, ih (fun k hk => h k (by omega)), h n (by omega), add_zero]
theorem S_add (n : Nat) (f g : Nat → F) : S n (fun k => f k + g k) = S n f + S n g := by
  induction n with
  | zero => rw [S_zero, S_zero, S_zero, add_zero]
  | succ n ih => rw [S_succ, S_succ, S_succ, ih, add_assoc, add_assoc, add_left_comm (S n g)]
theorem S_mul (n : Nat) (a : F) (f : Nat → F) : S n (fun k => a * f k) = a * S n f := by
  induction n with
  | zero => rw [S_zero, S_zero, mul_zero]
  | succ n ih => rw [S_succ, S_succ, ih, mul_add]
theorem S_mul_right (n : Nat) (a : F) (f : Nat → F) : S n (fun k => f k * a) = S n f * a := by
  rw [mul_comm, ← S_mul]; exact S_congr fun k _ => mul_comm _ _
theorem S_comm (n m : Nat) (f : Nat → Nat → F) : S n (fun i => S m (fun j => f i j)) = S m (fun j => S n (fun i => f i j)) := by
  induction n with
  | zero => exact (S_nought fun _ _ => rfl).symm
  | succ n ih => rw [S_succ, ih, ← S_add]; rfl
theorem S_one {n i : Nat} (h : i < n) {f : Nat → F} (h0 : ∀ k, k < n → k ≠ i → f k = 0) : S n f = f i := by
  induction n with
  | zero => omega
  | succ n ih =>
    rw [S_succ]
    by_cases e : i = n
    · subst e; rw [S_nought (fun k hk => h0 k (by omega) (by omega)), zero_add]
    · rw [ih (by omega) (fun k hk hne => h0 k (by omega) hne), h0 n (by omega) (by omega), add_zero]
abbrev M := Nat → Nat → F
def mul (n : Nat) (A B : M) : M := fun i j => S n fun k => A i k * B k j
def one1 : M := fun i j => if i = j then 1 else 0
theorem one_self (i : Nat) : one1 i i = 1 := if_pos rfl
theorem one_other {i j : Nat} (h : i ≠ j) : one1 i j = 0 := if_neg h
theorem mmul_assoc (n p : Nat) (A B C : M) : mul p (mul n A B) C = mul n A (mul p B C) := by
  funext i j
  show S p (fun k => S n (fun l => A i l * B l k) * C k j) = S n (fun l => A i l * S p (fun k => B l k * C k j))
  rw [S_congr (g := fun k => S n (fun l => A i l * B l k * C k j)) (fun k _ => (S_mul_right _ _ _).symm), S_comm]
  refine S_congr fun l _ => ?_
  rw [← S_mul]
  exact S_congr fun k _ => mul_assoc _ _ _
theorem one_mul_at {n : Nat} (A : M) {i : Nat} (h : i < n) (j : Nat) : mul n one1 A i j = A i j := by
  show S n (fun k => one1 i k * A k j) = _
  rw [S_one h (fun k _ hk => by rw [one_other (Ne.symm hk), zero_mul]), one_self, one_mul]
theorem mul_one_at {n : Nat} (A : M) (i : Nat) {j : Nat} (h : j < n) : mul n A one1 i j = A i j := by
  show S n (fun k => A i k * one1 k j) = _
  rw [S_one h (fun k _ hk => by rw [one_other hk, mul_zero]), one_self, mul_one]
theorem mul_congr {n : Nat} {A A' B B' : M} {i j : Nat} (hA : ∀ k, k < n → A i k = A' i k) (hB : ∀ k, k < n → B k j = B' k j) : mul n A B i j = mul n A' B' i j :=
  S_congr fun k hk => by rw [hA k hk, hB k hk]
structure Inv (n : Nat) (A : M) (R' : M) (X : M) : Prop where
  left : ∀ i j, i < n → j < n → X i j = mul n (fun i k => X i (n + k)) A i j
  back : ∀ i j, i < n → j < n → mul n R' X i j = A i j
  unit : ∀ i j, i < n → j < n → mul n R' X i (n + j) = one1 i j
theorem Inv.start {n : Nat} {A X : M} (h1 : ∀ i j, i < n → j < n → X i j = A i j) (h2 : ∀ i j, i < n → j < n → X i (n + j) = one1 i j) : Inv n A one1 X where
  left := fun i j hi hj => by
    rw [mul_congr (A' := one1) (B' := A) (fun k hk => h2 i k hi hk) (fun _ _ => rfl), one_mul_at _ hi, h1 i j hi hj]
  back := fun i j hi hj => by rw [one_mul_at _ hi, h1 i j hi hj]
  unit := fun i j hi hj => by rw [one_mul_at _ hi, h2 i j hi hj]
theorem Inv.step {n : Nat} {A R' X : M} (h : Inv n A R' X) (E G Y : M) (hY : ∀ i j, i < n → j < n + n → Y i j = mul n E X i j) (hG : ∀ i j, i < n → j < n → mul n G E i j = one1 i j) : Inv n A (mul n R' G) Y := by
  have key : ∀ i j, i < n → j < n + n → mul n (mul n R' G) Y i j = mul n R' X i j := fun i j hi hj => by
    rw [mul_congr (A' := mul n R' G) (B' := mul n E X) (fun _ _ => rfl) (fun k hk => hY k j hk hj), mmul_assoc, ← mmul_assoc n n G E X]
    refine mul_congr (fun _ _ => rfl) fun k hk => ?_
    rw [mul_congr (A' := one1) (B' := X) (fun l hl => hG k l hk hl) (fun _ _ => rfl), one_mul_at _ hk]
  refine ⟨fun i j hi hj => ?_, fun i j hi hj => ?_, fun i j hi hj => ?_⟩
  · rw [hY i j hi (by omega), mul_congr (A' := E) (B' := mul n (fun i k => X i (n + k)) A) (fun _ _ => rfl) (fun k hk => h.left k j hk hj), ← mmul_assoc]
    refine mul_congr (fun k hk => ?_) (fun _ _ => rfl)
    rw [hY i (n + k) hi (by omega)]; rfl
  · rw [key i j hi (by omega)]; exact h.back i j hi hj
  · rw [key i (n + j) hi (by omega)]; exact h.unit i j hi hj
def swp (a b : Nat) (i : Nat) : Nat := if i = a then b else if i = b then a else i
theorem swp_swp (a b i : Nat) : swp a b (swp a b i) = i := by
  unfold swp
  by_cases h1 : i = a
  · subst h1; rw [if_pos rfl]
    by_cases h2 : b = i
    · rw [if_pos h2]; exact h2
    · rw [if_neg h2, if_pos rfl]
  · rw [if_neg h1]
    by_cases h2 : i = b
    · subst h2; rw [if_pos rfl, if_pos rfl]
    · rw [if_neg h2, if_neg h1, if_neg h2]
theorem swp_lt {a b i n : Nat} (ha : a < n) (hb : b < n) (hi : i < n) : swp a b i < n := by
  unfold swp; split
  · exact hb
  · split
    · exact ha
    · exact hi
theorem Inv.swap {n : Nat} {A R' X : M} (h : Inv n A R' X) {a b : Nat} (ha : a < n) (hb : b < n) {Y : M} (hY : ∀ i j, i < n → j < n + n → Y i j = X (swp a b i) j) : ∃ R, Inv n A R Y := by
  refine ⟨_, h.step (fun i k => one1 (swp a b i) k) (fun i k => one1 (swp a b i) k) Y (fun i j hi hj => ?_) (fun i j hi hj => ?_)⟩
  · rw [hY i j hi hj]
    show _ = S n (fun k => one1 (swp a b i) k * X k j)
    rw [S_one (swp_lt ha hb hi) (fun k _ hk => by rw [one_other (Ne.symm hk), zero_mul]), one_self, one_mul]
  · show S n (fun k => one1 (swp a b i) k * one1 (swp a b k) j) = _
    rw [S_one (swp_lt ha hb hi) (fun k _ hk => by rw [one_other (Ne.symm hk), zero_mul]), one_self, one_mul, swp_swp]
theorem Inv.clear {n : Nat} {A R' X : M} (h : Inv n A R' X) {c : Nat} (hc : c < n) (hx : X c c ≠ 0) {Y : M} (hY1 : ∀ j, j < n + n → Y c j = (X c c).inv * X c j) (hY2 : ∀ i j, i < n → j < n + n → i ≠ c → Y i j = X i j + X i c * ((X c c).inv * X c j)) : ∃ R, Inv n A R Y := by
  refine ⟨_, h.step (fun i k => if i = c then (if k = c then (X c c).inv else 0) else one1 i k + (if k = c then X i c * (X c c).inv else 0))
    (fun i k => if i = c then (if k = c then X c c else 0) else one1 i k + (if k = c then X i c else 0)) Y (fun i j hi hj => ?_) (fun i j hi hj => ?_)⟩
  · show _ = S n (fun k => (if i = c then (if k = c then (X c c).inv else 0) else one1 i k + (if k = c then X i c * (X c c).inv else 0)) * X k j)
    by_cases e : i = c
    · subst e
      rw [hY1 j hj, S_one hi (fun k _ hk => by rw [if_pos rfl, if_neg hk, zero_mul]), if_pos rfl, if_pos rfl]
    · rw [hY2 i j hi hj e, S_congr (g := fun k => one1 i k * X k j + (if k = c then X i c * (X c c).inv else 0) * X k j) (fun k _ => by rw [if_neg e, add_mul]), S_add,
        S_one hi (fun k _ hk => by rw [one_other (Ne.symm hk), zero_mul]), S_one hc (fun k _ hk => by rw [if_neg hk, zero_mul]), one_self, one_mul, if_pos rfl, mul_assoc]
  · show S n (fun k => (if i = c then (if k = c then X c c else 0) else one1 i k + (if k = c then X i c else 0)) * (if k = c then (if j = c then (X c c).inv else 0) else one1 k j + (if j = c then X k c * (X c c).inv else 0))) = _
    by_cases e : i = c
    · subst e
      rw [S_one hi (fun k _ hk => by rw [if_pos rfl, if_neg hk, zero_mul]), if_pos rfl, if_pos rfl, if_pos rfl]
      by_cases ej : j = i
      · subst ej; rw [if_pos rfl, mul_inv hx, one_self]
      · rw [if_neg ej, mul_zero, one_other (Ne.symm ej)]
    · rw [S_congr (g := fun k => one1 i k * (if k = c then (if j = c then (X c c).inv else 0) else one1 k j + (if j = c then X k c * (X c c).inv else 0)) + (if k = c then X i c else 0) * (if k = c then (if j = c then (X c c).inv else 0) else one1 k j + (if j = c then X k c * (X c c).inv else 0))) (fun k _ => by rw [if_neg e, add_mul]), S_add,
        S_one hi (fun k _ hk => by rw [one_other (Ne.symm hk), zero_mul]), S_one hc (fun k _ hk => by rw [if_neg hk, zero_mul]), one_self, one_mul, if_neg e, if_pos rfl, if_pos rfl]
      by_cases ej : j = c
      · subst ej; rw [if_pos rfl, if_pos rfl, add_assoc, add_self, add_zero]
      · rw [if_neg ej, if_neg ej, mul_zero, add_zero, add_zero]
theorem Inv.done {n : Nat} {A R' X : M} (h : Inv n A R' X) (h1 : ∀ i j, i < n → j < n → X i j = one1 i j) :
    (∀ i j, i < n → j < n → mul n (fun i k => X i (n + k)) A i j = one1 i j) ∧ (∀ i j, i < n → j < n → mul n A (fun i k => X i (n + k)) i j = one1 i j) := by
  have hR : ∀ i j, i < n → j < n → R' i j = A i j := fun i j hi hj => by
    have e := h.back i j hi hj
    rw [mul_congr (A' := R') (B' := one1) (fun _ _ => rfl) (fun k hk => h1 k j hk hj), mul_one_at _ _ hj] at e
    exact e
  refine ⟨fun i j hi hj => by rw [← h.left i j hi hj, h1 i j hi hj], fun i j hi hj => ?_⟩
  rw [← h.unit i j hi hj]
  exact mul_congr (fun k hk => (hR i k hi hk).symm) (fun _ _ => rfl)
theorem Inv.stuck {n : Nat} {A R' X : M} (h : Inv n A R' X) {c : Nat} (hc : c < n) (h1 : ∀ i j, i < n → j < c → X i j = one1 i j) (h2 : ∀ i, c ≤ i → i < n → X i c = 0) :
    ∃ v : Nat → F, v c = 1 ∧ ∀ i, i < n → S n (fun k => A i k * v k) = 0 := by
  refine ⟨fun k => if k = c then 1 else if k < c then X k c else 0, if_pos rfl, fun i hi => ?_⟩
  have hX : ∀ l, l < n → S n (fun k => X l k * (if k = c then 1 else if k < c then X k c else 0)) = 0 := fun l hl => by
    rw [S_congr (g := fun k => (if k = c then X l c else 0) + (if k < c then one1 l k * X k c else 0)) (fun k hk => by
      by_cases e : k = c
      · subst e; rw [if_pos rfl, if_pos rfl, if_neg (by omega), mul_one, add_zero]
      · rw [if_neg e, if_neg e, zero_add]
        by_cases e2 : k < c
        · rw [if_pos e2, if_pos e2, h1 l k hl e2]
        · rw [if_neg e2, if_neg e2, mul_zero]), S_add, S_one hc (fun k _ hk => by rw [if_neg hk]), if_pos rfl]
    by_cases e : l < c
    · rw [S_one (i := l) hl (fun k _ hk => by
        by_cases e2 : k < c
        · rw [if_pos e2, one_other (Ne.symm hk), zero_mul]
        · rw [if_neg e2]), if_pos e, one_self, one_mul, add_self]
    · rw [h2 l (by omega) hl, zero_add, S_nought (fun k hk => by
        by_cases e2 : k < c
        · rw [if_pos e2, one_other (by omega), zero_mul]
        · rw [if_neg e2])]
  rw [S_congr (g := fun k => S n (fun l => R' i l * (X l k * (if k = c then 1 else if k < c then X k c else 0)))) (fun k hk => by
    rw [← h.back i k hi hk, mul, ← S_mul_right]; exact S_congr fun l _ => mul_assoc _ _ _), S_comm]
  exact S_nought fun l hl => by rw [S_mul, hX l hl, mul_zero]
theorem cauchy_kernel : ∀ (n : Nat) (x y v : Nat → F), (∀ i j, i < n → j < n → i ≠ j → x i ≠ x j) → (∀ i j, i < n → j < n → i ≠ j → y i ≠ y j) → (∀ i j, i < n → j < n → x i + y j ≠ 0) →
    (∀ i, i < n → S n (fun j => v j * (x i + y j).inv) = 0) → ∀ j, j < n → v j = 0
  | 0, _, _, _, _, _, _, _, j, hj => by omega
  | n + 1, x, y, v, hx, hy, hxy, hs, j, hj => by
    -- the last y goes first
    have hsum : ∀ i, i < n + 1 → S n (fun j => v j * ((y n + y j) * (x i + y j).inv)) = S (n + 1) v := fun i hi => by
      have h1 : (x i + y n) * S (n + 1) (fun j => v j * (x i + y j).inv) = 0 := by rw [hs i hi, mul_zero]
      rw [← S_mul, S_congr (g := fun j => v j + v j * ((y n + y j) * (x i + y j).inv)) (fun k hk => by
        have e : x i + y n = (x i + y k) + (y n + y k) := by rw [add_comm (y n), add_assoc, add_add]
        rw [e, add_mul, mul_left_comm (x i + y k), mul_inv (hxy i k hi hk), mul_one, mul_left_comm (y n + y k)]), S_add] at h1
      have h2 := eq_of_add h1
      rw [h2, S_succ, add_self, zero_mul, mul_zero, add_zero]
    have hz : ∀ k, k < n → v k * ((y n + y k) * (x n + y k).inv) = 0 := by
      refine cauchy_kernel n x y (fun k => v k * ((y n + y k) * (x n + y k).inv)) (fun i j hi hj => hx i j (by omega) (by omega)) (fun i j hi hj => hy i j (by omega) (by omega)) (fun i j hi hj => hxy i j (by omega) (by omega)) (fun i hi => ?_)
      have h1 : S n (fun k => v k * ((y n + y k) * (x i + y k).inv)) + S n (fun k => v k * ((y n + y k) * (x n + y k).inv)) = 0 := by
        rw [hsum i (by omega), hsum n (by omega), add_self]
      rw [← S_add, S_congr (g := fun k => (x i + x n) * (v k * ((y n + y k) * (x n + y k).inv) * (x i + y k).inv)) (fun k hk => by
        have e : (x i + y k).inv + (x n + y k).inv = (x i + x n) * ((x n + y k).inv * (x i + y k).inv) := by
          have e1 : x i + x n = (x i + y k) + (x n + y k) := by rw [add_comm (x n), add_assoc, add_add]
          rw [e1, add_mul, mul_left_comm (x i + y k), mul_inv (hxy i k (by omega) (by omega)), mul_one, ← mul_assoc (x n + y k), mul_inv (hxy n k (by omega) (by omega)), one_mul, add_comm]
        rw [← mul_add, ← mul_add, e, mul_left_comm (y n + y k), mul_left_comm (v k)]
        congr 1
        rw [mul_assoc, mul_assoc]), S_mul] at h1
      rcases mul_eq_zero h1 with h | h
      · exact absurd (eq_of_add h) (hx i n (by omega) (by omega) (by omega))
      · exact h
    have hv : ∀ k, k < n → v k = 0 := fun k hk => by
      rcases mul_eq_zero (hz k hk) with h | h
      · exact h
      · rcases mul_eq_zero h with h | h
        · exact absurd (eq_of_add h) (hy n k (by omega) (by omega) (by omega))
        · have e := mul_inv (hxy n k (by omega) (by omega))
          rw [h, mul_zero] at e
          exact absurd e.symm one_ne
    by_cases e : j = n
    · subst e
      have h1 := hs j (by omega)
      rw [S_one hj (fun k hk hne => by rw [hv k (by omega), zero_mul])] at h1
      rcases mul_eq_zero h1 with h | h
      · exact h
      · have e := mul_inv (hxy j j (by omega) (by omega))
        rw [h, mul_zero] at e
        exact absurd e.symm one_ne
    · exact hv j (by omega)
end Go.Proofs.YtjgafpkpoppcbaaGreatDoor.Mx
end
section
namespace Go.Proofs.YtjgafpkpoppcbaaGreatDoor
open Go.RowKit
theorem Tryz.infoS : (Tryz.prog.info? 9).map (fun i => (i.zero, i.size, i.bytes)) = some (some (.string ⟨#[]⟩), 1, 16) := by kernel_rfl
abbrev tx (l : List ByteArray) : List Value := l.map Value.string
theorem tx_getD (l : List ByteArray) {i : Nat} (h : i < l.length) : (tx l).getD i .nilFunc = .string (l.getD i ⟨#[]⟩) := by
  simp [tx, List.getD_eq_getElem?_getD, h]
theorem tx_one (l : List ByteArray) : ∀ x ∈ tx l, x.oneCell' = true := by
  intro x hx; simp [tx] at hx; obtain ⟨s, _, rfl⟩ := hx; rfl
theorem Reads.srow {w : World} {v : Value} {l : List ByteArray} (h : Reads w v (tx l)) : ((∃ a c, v = .slice a 0 c) ∧ l = []) ∨ ∃ b off cap, v = .slice (some ⟨b, off, none⟩) l.length cap ∧ SRow w b off l := by
  rcases h with ⟨h1, h2⟩ | ⟨b, off, cap, h1, h2, h3⟩
  · exact .inl ⟨h1, by simpa using h2⟩
  · refine .inr ⟨b, off, cap, by rw [h1]; simp, ⟨fun i hi => ?_, h2⟩⟩
    rw [h3 i (by simpa using hi), tx_getD l hi]
theorem SRow.reads {w : World} {b off cap : Nat} {l : List ByteArray} (h : SRow w b off l) : Reads w (.slice (some ⟨b, off, none⟩) l.length cap) (tx l) :=
  .inr ⟨b, off, cap, by simp, h.lt, fun i hi => by rw [tx_getD l (by simpa using hi)]; exact h.cell i (by simpa using hi)⟩
structure Fits (l : List ByteArray) : Prop where
  n : l.length ≤ 140737488355328
  m : ∀ i, i < l.length → (l.getD i ⟨#[]⟩).size ≤ 140737488355328
theorem right_r (v : Value) (l : List ByteArray) (w : World) (h : Reads w v (tx l)) (hF : Fits l) :
    Calls Tryz.prog 139 #[v] w fun e w' => e = .returned (.bool (mR l)) ∧ w = w' := by
  rcases h.srow with ⟨⟨a0, c0, rfl⟩, rfl⟩ | ⟨b, off, cap, rfl, hS⟩
  · exact right_nil w a0 c0
  · exact mright_any b off cap l w hS hF.n hF.m
theorem mR_facts {l : List ByteArray} (h : mR l = true) : 1 ≤ l.length ∧ l.length ≤ 16 ∧ 1 ≤ (l.getD 0 ⟨#[]⟩).size ∧ (l.getD 0 ⟨#[]⟩).size ≤ 4096 ∧ ∀ i, i < l.length → (l.getD i ⟨#[]⟩).size = (l.getD 0 ⟨#[]⟩).size := by
  unfold mR at h
  rw [Bool.and_eq_true, decide_eq_true_eq, List.all_eq_true] at h
  obtain ⟨⟨h1, h2, h3, h4⟩, h5⟩ := h
  refine ⟨h1, h2, h3, h4, fun i hi => ?_⟩
  have := h5 (l.getD i ⟨#[]⟩) (by rw [List.getD_eq_getElem?_getD, List.getElem?_eq_getElem hi]; exact List.getElem_mem hi)
  simpa using this
def mulOk (a b : List ByteArray) : Bool := mR a && mR b && ((a.getD 0 ⟨#[]⟩).size == b.length)
def mulL (a b : List ByteArray) : List ByteArray := if mulOk a b then a.map (fun f => comb f b b.length) else []
def mulE (a b : List ByteArray) : Int := if mulOk a b then 0 else 20
def prodTo (a b : List ByteArray) (k : Nat) : List ByteArray := (a.take k).map (fun f => comb f b b.length) ++ List.replicate (a.length - k) ⟨#[]⟩
theorem prodTo_zero (a b : List ByteArray) : tx (prodTo a b 0) = List.replicate a.length (.string ⟨#[]⟩) := by simp [prodTo, tx]
theorem prodTo_length (a b : List ByteArray) {k : Nat} (h : k ≤ a.length) : (prodTo a b k).length = a.length := by simp [prodTo]; omega
theorem prodTo_all (a b : List ByteArray) : prodTo a b a.length = a.map (fun f => comb f b b.length) := by simp [prodTo]
theorem prodTo_succ (a b : List ByteArray) {k : Nat} (h : k < a.length) : tx (prodTo a b (k + 1)) = (tx (prodTo a b k)).set k (.string (comb (a.getD k ⟨#[]⟩) b b.length)) := by
  have e : (prodTo a b (k + 1)) = (prodTo a b k).set k (comb (a.getD k ⟨#[]⟩) b b.length) := by
    apply List.ext_getElem
    · rw [List.length_set, prodTo_length a b (by omega), prodTo_length a b (by omega)]
    · intro j h1 h2
      rw [prodTo_length a b (by omega)] at h1
      rw [List.getElem_set]
      simp only [prodTo, List.getElem_append, List.length_map, List.length_take, List.getElem_map, List.getElem_take, List.getElem_replicate]
      by_cases e : k = j
      · subst e; rw [if_pos rfl, dif_pos (by omega), List.getD_eq_getElem?_getD, List.getElem?_eq_getElem h]; rfl
      · rw [if_neg e]
        by_cases e2 : j < k
        · rw [dif_pos (by omega), dif_pos (by omega)]
        · rw [dif_neg (by omega), dif_neg (by omega)]
  rw [e, tx, List.map_set]
def GivesL (w : World) (l : List ByteArray) (n : Int) (e : Ending) (w' : World) : Prop :=
  ∃ v, e = .returned (.tuple #[v, .int .i64 n]) ∧ Own w' w.heap.size 9 v (tx l) ∧ Below w.heap.size w w'
theorem mul_bad (w : World) (a b : List ByteArray) (h : Hid (mulOk a b = false)) (W : World) (hb : Below w.heap.size w W) : GivesL w (mulL a b) (mulE a b) (.returned (.tuple #[.slice none 0 0, .int .i64 20])) W :=
  ⟨.slice none 0 0, by simp [mulE, h.out], by simp [mulL, h.out]; exact Own.nil _ _ _, hb⟩
set_option maxRecDepth 100000 in
set_option maxHeartbeats 1000000 in
theorem mxmul_any (va vb : Value) (a b : List ByteArray) (w : World) (ht : Tabs w) (hA : Reads w va (tx a)) (hB : Reads w vb (tx b)) (fa : Fits a) (fb : Fits b) :
    Calls Tryz.prog 111 #[va, vb] w (GivesL w (mulL a b) (mulE a b)) := by
  have ra := right_r va a w hA fa
  have rb := right_r vb b w hB fb
  cases h1 : mR a with
  | false =>
    have hz : Hid (mulOk a b = false) := Lib.hid (by simp [mulOk, h1])
    rw [h1] at ra
    clear h1
    go_enter Tryz.func111, Tryz.ntmps111
    go_wp2_with (go_at_call 139; ((with_reducible refine ra.mono ?_); rintro e w' ⟨rfl, rfl⟩))
    go_ret2
    exact mul_bad w a b hz _ (Below.refl _ _)
  | true =>
    cases h2 : mR b with
    | false =>
      have hz : Hid (mulOk a b = false) := Lib.hid (by simp [mulOk, h2])
      rw [h1] at ra
      rw [h2] at rb
      clear h1 h2
      go_enter Tryz.func111, Tryz.ntmps111
      go_wp2_with (first | (go_at_call 139; ((with_reducible refine ra.mono ?_); rintro e w' ⟨rfl, rfl⟩)) | (go_at_call 139; ((with_reducible refine rb.mono ?_); rintro e w' ⟨rfl, rfl⟩)))
      go_ret2
      exact mul_bad w a b hz _ (Below.refl _ _)
    | true =>
      obtain ⟨ka1, ka2, ka3, ka4, ka5⟩ := mR_facts h1
      obtain ⟨kb1, kb2, kb3, kb4, kb5⟩ := mR_facts h2
      rw [h1] at ra
      rw [h2] at rb
      rcases hA.srow with ⟨_, rfl⟩ | ⟨ba, oa, ca, rfl, hSa⟩
      · simp at ka1
      rcases hB.srow with ⟨_, rfl⟩ | ⟨bb, ob, cb, rfl, hSb⟩
      · simp at kb1
      have hc0 := hSa.cell 0 (by omega)
      rw [Nat.add_zero] at hc0
      by_cases h3 : (a.getD 0 ⟨#[]⟩).size = b.length
      · have hz : Hid (mulOk a b = true) := Lib.hid (by simp [mulOk, h1, h2]; simpa using h3)
        have h3' := Lib.hid h3
        have t3 : ((((a.getD 0 ⟨#[]⟩).size : Nat) : Int) != ((b.length : Nat) : Int)) = false := by rw [h3]; exact bne_self_eq_false _
        obtain ⟨s0, hs0⟩ : ∃ r, a.getD 0 ⟨#[]⟩ = r := ⟨_, rfl⟩
        have hs0' := Lib.hid hs0
        rw [hs0] at hc0 t3
        clear h1 h2 h3 hs0
        have ka5' := Lib.hid ka5
        have kb5' := Lib.hid kb5
        clear ka5 kb5
        obtain ⟨i0, hi, hz0, hz1, hz2⟩ := info_parts Tryz.infoS
        obtain ⟨w1, hmk, hown1, hbel1⟩ := Own.make_run (P := Tryz.prog) (T := 39) Tryz.underlying39 hi hz0 hz1 hz2 rfl w a.length (by omega) (by omega)
        go_enter Tryz.func111, Tryz.ntmps111
        go_wp2_with (first | (go_at_call 139; ((with_reducible refine ra.mono ?_); rintro e w' ⟨rfl, rfl⟩)) | (go_at_call 139; ((with_reducible refine rb.mono ?_); rintro e w' ⟨rfl, rfl⟩)))
        have hsz := hbel1.size
        have ht1 : Tabs w1 := ht.below hbel1 ht.two
        have hlt1 := hown1.lt
        go_wp2
        go_loopw [7, 8, 31] (fun _ _ i wr => ∃ k : Nat, k ≤ a.length ∧ i = .int .i64 (k : Int) ∧ Own wr w.heap.size 9 (.slice (some ⟨w.heap.size, 0, none⟩) a.length a.length) (tx (prodTo a b k)) ∧ Below w.heap.size w wr) (fun _ _ i _ => a.length - (RowKit.intOf i).toNat)
        case atStart => exact ⟨0, by omega, rfl, by rw [prodTo_zero]; exact hown1, hbel1⟩
        case round =>
          obtain ⟨k, hk, rfl, hown, hbel⟩ := hrel
          by_cases hlt : k < a.length
          · have hc := (hSa.below hbel).cell k hlt
            have hka := ka5'.out k hlt
            have b1 : (k : Int) < (a.length : Int) := by omega
            have htk : Tabs wr := ht.below hbel ht.two
            have hSk := hSb.below hbel
            have hcr := combine_any (a.getD k ⟨#[]⟩) bb ob cb b wr htk hSk kb1 (by omega) (by rw [hka]; exact Nat.le_of_eq h3'.out.symm) (by omega) (fun i hi => by rw [kb5'.out i hi]; omega)
            have hnx := Lib.hid (prodTo_succ a b hlt)
            have hlt2 := hown.lt
            have hk2 : k < (tx (prodTo a b k)).length := by rw [List.length_map, prodTo_length a b hk]; exact hlt
            generalize a.getD k ⟨#[]⟩ = rk at *
            clear hka
            go_wp2_with (go_at_call 144; ((with_reducible refine hcr.mono ?_); rintro e w2 ⟨rfl, hb2⟩; have hown2 := hown.after hb2; have hfz := hown2.frozen k; have hcl := hown2.cell (i := k) hk2))
            go_roundw
            case rel => exact ⟨k + 1, by omega, by go_num, by rw [hnx.out]; exact hown2.set k _, (hbel.trans (hb2.mono hbel.size)).setCell (Nat.le_refl _) _⟩
            case measure => simp [RowKit.intOf]; omega
          · have e : k = a.length := by omega
            subst e
            go_wp2
            go_ret2
            rw [prodTo_all] at hown
            exact ⟨.slice (some ⟨w.heap.size, 0, none⟩) a.length a.length, by rw [mulE, if_pos hz.out]; rfl, by rw [mulL, if_pos hz.out]; exact hown, hbel⟩
      · have hz : Hid (mulOk a b = false) := Lib.hid (by simp [mulOk, h1, h2]; simpa using h3)
        have t3 : ((((a.getD 0 ⟨#[]⟩).size : Nat) : Int) != ((b.length : Nat) : Int)) = true := by rw [bne_iff_ne]; omega
        obtain ⟨s0, hs0⟩ : ∃ r, a.getD 0 ⟨#[]⟩ = r := ⟨_, rfl⟩
        rw [hs0] at hc0 t3
        clear h1 h2 h3 hs0 ka5 kb5
        go_enter Tryz.func111, Tryz.ntmps111
        go_wp2_with (first | (go_at_call 139; ((with_reducible refine ra.mono ?_); rintro e w' ⟨rfl, rfl⟩)) | (go_at_call 139; ((with_reducible refine rb.mono ?_); rintro e w' ⟨rfl, rfl⟩)))
        go_ret2
        exact mul_bad w a b hz _ (Below.refl _ _)
end Go.Proofs.YtjgafpkpoppcbaaGreatDoor
end
section
namespace Go.Proofs.YtjgafpkpoppcbaaGreatDoor
open Go.RowKit
def fitsB (n : Int) : Bool := decide (1 ≤ n ∧ n ≤ 16)
theorem fits_any (n : Int) (w : World) : Calls Tryz.prog 149 #[.int .i64 n] w fun e w' => e = .returned (.bool (fitsB n)) ∧ w = w' := by
  by_cases h1 : 1 ≤ n
  · have t1 : decide (1 ≤ n) = true := by simpa using h1
    cases t2 : decide (n ≤ 16) with
    | true =>
      have hz : Hid (fitsB n = true) := Lib.hid (by simp at t2; simp [fitsB]; omega)
      go_enter Tryz.func149, Tryz.ntmps149
      go_wp2
      go_ret
      exact ⟨by rw [hz.out]; rfl, rfl⟩
    | false =>
      have hz : Hid (fitsB n = false) := Lib.hid (by simp at t2; simp [fitsB]; omega)
      go_enter Tryz.func149, Tryz.ntmps149
      go_wp2
      go_ret
      exact ⟨by rw [hz.out]; rfl, rfl⟩
  · have t1 : decide (1 ≤ n) = false := by simpa using h1
    have hz : Hid (fitsB n = false) := Lib.hid (by simp [fitsB]; omega)
    go_enter Tryz.func149, Tryz.ntmps149
    go_wp2
    go_ret
    exact ⟨by rw [hz.out]; rfl, rfl⟩
def rowTo (el : Nat → UInt8) (n k : Nat) : List UInt8 := (List.range k).map el ++ List.replicate (n - k) 0
theorem rowTo_length (el : Nat → UInt8) {n k : Nat} (h : k ≤ n) : (rowTo el n k).length = n := by simp [rowTo]; omega
theorem rowTo_succ (el : Nat → UInt8) {n k : Nat} (h : k < n) : rowTo el n (k + 1) = (rowTo el n k).set k (el k) := by
  apply List.ext_getElem
  · rw [List.length_set, rowTo_length el (by omega), rowTo_length el (by omega)]
  · intro j h1 h2
    rw [rowTo_length el (by omega)] at h1
    rw [List.getElem_set]
    simp only [rowTo, List.getElem_append, List.length_map, List.length_range, List.getElem_map, List.getElem_range, List.getElem_replicate]
    by_cases e : k = j
    · subst e; rw [if_pos rfl, dif_pos (by omega)]
    · rw [if_neg e]
      by_cases e2 : j < k
      · rw [dif_pos (by omega), dif_pos e2]
      · rw [dif_neg (by omega), dif_neg e2]
theorem rowTo_all (el : Nat → UInt8) (n : Nat) : rowTo el n n = (List.range n).map el := by simp [rowTo]
theorem rowTo_zero (el : Nat → UInt8) (n : Nat) : (rowTo el n 0).map byteVal = List.replicate n (.int .u8 0) := by simp [rowTo, byteVal]
def linesTo (f : Nat → ByteArray) (n k : Nat) : List ByteArray := (List.range k).map f ++ List.replicate (n - k) ⟨#[]⟩
theorem linesTo_length (f : Nat → ByteArray) {n k : Nat} (h : k ≤ n) : (linesTo f n k).length = n := by simp [linesTo]; omega
theorem linesTo_succ (f : Nat → ByteArray) {n k : Nat} (h : k < n) : tx (linesTo f n (k + 1)) = (tx (linesTo f n k)).set k (.string (f k)) := by
  have e : linesTo f n (k + 1) = (linesTo f n k).set k (f k) := by
    apply List.ext_getElem
    · rw [List.length_set, linesTo_length f (by omega), linesTo_length f (by omega)]
    · intro j h1 h2
      rw [linesTo_length f (by omega)] at h1
      rw [List.getElem_set]
      simp only [linesTo, List.getElem_append, List.length_map, List.length_range, List.getElem_map, List.getElem_range, List.getElem_replicate]
      by_cases e : k = j
      · subst e; rw [if_pos rfl, dif_pos (by omega)]
      · rw [if_neg e]
        by_cases e2 : j < k
        · rw [dif_pos (by omega), dif_pos e2]
        · rw [dif_neg (by omega), dif_neg e2]
  rw [e, tx, List.map_set]
theorem linesTo_all (f : Nat → ByteArray) (n : Nat) : linesTo f n n = (List.range n).map f := by simp [linesTo]
theorem linesTo_zero (f : Nat → ByteArray) (n : Nat) : tx (linesTo f n 0) = List.replicate n (.string ⟨#[]⟩) := by simp [linesTo, tx]
def mkM (el : Nat → Nat → UInt8) (m n : Nat) : List ByteArray := (List.range m).map fun i => lineOf ((List.range n).map (el i))
def GivesT (w : World) (l : List ByteArray) (e : Ending) (w' : World) : Prop :=
  ∃ v, e = .returned v ∧ Own w' w.heap.size 9 v (tx l) ∧ Below w.heap.size w w'
set_option maxRecDepth 100000 in
set_option maxHeartbeats 1000000 in
theorem build_id (m n : Nat) (el : Nat → Nat → UInt8) (w : World) (hm : m ≤ 16) (hn : n ≤ 16)
    (hel : ∀ i j : Nat, i < m → j < n → ∀ W, Below w.heap.size w W → Calls Tryz.prog 168 #[.int .i64 (i : Int), .int .i64 (j : Int)] W fun e w' => e = .returned (.int .u8 (((el i j).toNat : Nat) : Int)) ∧ W = w') :
    Calls Tryz.prog 150 #[.int .i64 (m : Int), .int .i64 (n : Int), .func (.func 168) #[] #[]] w (GivesT w (mkM el m n)) := by
  obtain ⟨i0, hi, hz0, hz1, hz2⟩ := info_parts Tryz.infoS
  obtain ⟨i1, hi1, hy0, hy1, hy2⟩ := info_parts Tryz.info5
  obtain ⟨w1, hmk, hown1, hbel1⟩ := Own.make_run (P := Tryz.prog) (T := 39) Tryz.underlying39 hi hz0 hz1 hz2 rfl w m (by omega) (by omega)
  have hHel := Lib.hid hel
  clear hel
  go_enter Tryz.func150, Tryz.ntmps150
  go_wp2
  go_loopw [8, 9, 10, 14, 20] (fun _ _ _ i _ wr => ∃ k : Nat, k ≤ m ∧ i = .int .i64 (k : Int) ∧ Own wr w.heap.size 9 (.slice (some ⟨w.heap.size, 0, none⟩) m m) (tx (linesTo (fun i => lineOf ((List.range n).map (el i))) m k)) ∧ Below w.heap.size w wr) (fun _ _ _ i _ _ => m - (RowKit.intOf i).toNat)
  case atStart => exact ⟨0, by omega, rfl, by rw [linesTo_zero]; exact hown1, hbel1⟩
  case round =>
    obtain ⟨k, hk, rfl, hown, hbel⟩ := hrel
    by_cases hlt : k < m
    · have b1 : (k : Int) < (m : Int) := by omega
      have hltw := hown.lt
      obtain ⟨w2, hmk2, hown2, hbel2⟩ := Own.make_run (P := Tryz.prog) (T := 99) Tryz.underlying99 hi1 hy0 hy1 hy2 rfl wr n (by omega) (by omega)
      have hnx := Lib.hid (linesTo_succ (fun i => lineOf ((List.range n).map (el i))) hlt)
      have hkl : k < (tx (linesTo (fun i => lineOf ((List.range n).map (el i))) m k)).length := by rw [List.length_map, linesTo_length _ hk]; exact hlt
      clear hmk hown1
      obtain ⟨wo, rfl⟩ : ∃ wo : World, wo = wr := ⟨_, rfl⟩
      have hbo := hbel2.mono hbel.size
      go_wp2
      go_loopw [10, 20] (fun _ j W => ∃ q : Nat, q ≤ n ∧ j = .int .i64 (q : Int) ∧ Own W wo.heap.size 5 (.slice (some ⟨wo.heap.size, 0, none⟩) n n) ((rowTo (el k) n q).map byteVal) ∧ Below wo.heap.size wo W) (fun _ j _ => n - (RowKit.intOf j).toNat)
      case atStart => exact ⟨0, by omega, rfl, by rw [rowTo_zero]; exact hown2, hbel2⟩
      case round =>
        obtain ⟨q, hq, rfl, hownq, hbelq⟩ := hrel
        by_cases hlq : q < n
        · have b2 : (q : Int) < (n : Int) := by omega
          have hc := hHel.out k q hlt hlq wr (hbel.trans (hbelq.mono hbel.size))
          have hfz := hownq.frozen q
          have hcl := hownq.cell (i := q) (by rw [List.length_map, rowTo_length _ hq]; exact hlq)
          have hnq : Hid ((rowTo (el k) n (q + 1)).map byteVal = ((rowTo (el k) n q).map byteVal).set q (.int .u8 (((el k q).toNat : Nat) : Int))) := Lib.hid (by rw [rowTo_succ _ hlq, List.map_set]; rfl)
          go_wp2_with (go_at_call 168; ((with_reducible refine hc.mono ?_); rintro e w3 ⟨rfl, rfl⟩))
          go_roundw
          case rel => exact ⟨q + 1, by omega, by go_num, by rw [hnq.out]; exact hownq.set q _, hbelq.setCell (Nat.le_refl _) _⟩
          case measure => simp [RowKit.intOf]; omega
        · have e : q = n := by omega
          subst e
          rw [rowTo_all] at hownq
          have hst := own_back hownq.o
          have hown3 := hown.after hbelq
          have hfz := hown3.frozen k
          have hcl := hown3.cell (i := k) hkl
          go_wp2
          go_roundw
          case rel => exact ⟨k + 1, by omega, by go_num, by rw [hnx.out]; exact hown3.set k _, (hbel.trans (hbelq.mono hbel.size)).setCell (Nat.le_refl _) _⟩
          case measure => simp [RowKit.intOf]; omega
    · have e : k = m := by omega
      subst e
      go_wp2
      go_ret
      rw [linesTo_all] at hown
      exact ⟨.slice (some ⟨w.heap.size, 0, none⟩) k k, rfl, hown, hbel⟩
set_option maxRecDepth 100000 in
set_option maxHeartbeats 1000000 in
theorem build_cauchy (m n : Nat) (el : Nat → Nat → UInt8) (w : World) (a : Addr) (hm : m ≤ 16) (hn : n ≤ 16)
    (hel : ∀ i j : Nat, i < m → j < n → ∀ W, Below w.heap.size w W → Calls Tryz.prog 151 #[.int .i64 (i : Int), .int .i64 (j : Int), .pointer (some a)] W fun e w' => e = .returned (.int .u8 (((el i j).toNat : Nat) : Int)) ∧ W = w') :
    Calls Tryz.prog 150 #[.int .i64 (m : Int), .int .i64 (n : Int), .func (.func 151) #[] #[.pointer (some a)]] w (GivesT w (mkM el m n)) := by
  obtain ⟨i0, hi, hz0, hz1, hz2⟩ := info_parts Tryz.infoS
  obtain ⟨i1, hi1, hy0, hy1, hy2⟩ := info_parts Tryz.info5
  obtain ⟨w1, hmk, hown1, hbel1⟩ := Own.make_run (P := Tryz.prog) (T := 39) Tryz.underlying39 hi hz0 hz1 hz2 rfl w m (by omega) (by omega)
  have hHel := Lib.hid hel
  clear hel
  go_enter Tryz.func150, Tryz.ntmps150
  go_wp2
  go_loopw [8, 9, 10, 14, 20] (fun _ _ _ i _ wr => ∃ k : Nat, k ≤ m ∧ i = .int .i64 (k : Int) ∧ Own wr w.heap.size 9 (.slice (some ⟨w.heap.size, 0, none⟩) m m) (tx (linesTo (fun i => lineOf ((List.range n).map (el i))) m k)) ∧ Below w.heap.size w wr) (fun _ _ _ i _ _ => m - (RowKit.intOf i).toNat)
  case atStart => exact ⟨0, by omega, rfl, by rw [linesTo_zero]; exact hown1, hbel1⟩
  case round =>
    obtain ⟨k, hk, rfl, hown, hbel⟩ := hrel
    by_cases hlt : k < m
    · have b1 : (k : Int) < (m : Int) := by omega
      have hltw := hown.lt
      obtain ⟨w2, hmk2, hown2, hbel2⟩ := Own.make_run (P := Tryz.prog) (T := 99) Tryz.underlying99 hi1 hy0 hy1 hy2 rfl wr n (by omega) (by omega)
      have hnx := Lib.hid (linesTo_succ (fun i => lineOf ((List.range n).map (el i))) hlt)
      have hkl : k < (tx (linesTo (fun i => lineOf ((List.range n).map (el i))) m k)).length := by rw [List.length_map, linesTo_length _ hk]; exact hlt
      clear hmk hown1
      obtain ⟨wo, rfl⟩ : ∃ wo : World, wo = wr := ⟨_, rfl⟩
      have hbo := hbel2.mono hbel.size
      go_wp2
      go_loopw [10, 20] (fun _ j W => ∃ q : Nat, q ≤ n ∧ j = .int .i64 (q : Int) ∧ Own W wo.heap.size 5 (.slice (some ⟨wo.heap.size, 0, none⟩) n n) ((rowTo (el k) n q).map byteVal) ∧ Below wo.heap.size wo W) (fun _ j _ => n - (RowKit.intOf j).toNat)
      case atStart => exact ⟨0, by omega, rfl, by rw [rowTo_zero]; exact hown2, hbel2⟩
      case round =>
        obtain ⟨q, hq, rfl, hownq, hbelq⟩ := hrel
        by_cases hlq : q < n
        · have b2 : (q : Int) < (n : Int) := by omega
          have hc := hHel.out k q hlt hlq wr (hbel.trans (hbelq.mono hbel.size))
          have hfz := hownq.frozen q
          have hcl := hownq.cell (i := q) (by rw [List.length_map, rowTo_length _ hq]; exact hlq)
          have hnq : Hid ((rowTo (el k) n (q + 1)).map byteVal = ((rowTo (el k) n q).map byteVal).set q (.int .u8 (((el k q).toNat : Nat) : Int))) := Lib.hid (by rw [rowTo_succ _ hlq, List.map_set]; rfl)
          go_wp2_with (go_at_call 151; ((with_reducible refine hc.mono ?_); rintro e w3 ⟨rfl, rfl⟩))
          go_roundw
          case rel => exact ⟨q + 1, by omega, by go_num, by rw [hnq.out]; exact hownq.set q _, hbelq.setCell (Nat.le_refl _) _⟩
          case measure => simp [RowKit.intOf]; omega
        · have e : q = n := by omega
          subst e
          rw [rowTo_all] at hownq
          have hst := own_back hownq.o
          have hown3 := hown.after hbelq
          have hfz := hown3.frozen k
          have hcl := hown3.cell (i := k) hkl
          go_wp2
          go_roundw
          case rel => exact ⟨k + 1, by omega, by go_num, by rw [hnx.out]; exact hown3.set k _, (hbel.trans (hbelq.mono hbel.size)).setCell (Nat.le_refl _) _⟩
          case measure => simp [RowKit.intOf]; omega
    · have e : k = m := by omega
      subst e
      go_wp2
      go_ret
      rw [linesTo_all] at hown
      exact ⟨.slice (some ⟨w.heap.size, 0, none⟩) k k, rfl, hown, hbel⟩
def idEl (i j : Nat) : UInt8 := if i = j then 1 else 0
def cyEl (m i j : Nat) : UInt8 := UInt8.ofNat (Gf.gi (i ^^^ (m + j)))
theorem cyEl_toNat (m i j : Nat) : (cyEl m i j).toNat = Gf.gi (i ^^^ (m + j)) := by
  have := Gf.gi_lt (i ^^^ (m + j))
  simp [cyEl, UInt8.toNat_ofNat']; omega
theorem idel_any (i j : Nat) (w : World) (hi : i < 16) (hj : j < 16) :
    Calls Tryz.prog 168 #[.int .i64 (i : Int), .int .i64 (j : Int)] w fun e w' => e = .returned (.int .u8 (((idEl i j).toNat : Nat) : Int)) ∧ w = w' := by
  by_cases h : i = j
  · have t : ((i : Int) == (j : Int)) = true := by rw [beq_iff_eq]; omega
    have hz : Hid ((((idEl i j).toNat : Nat) : Int) = 1) := Lib.hid (by rw [idEl, if_pos h]; rfl)
    clear h
    go_enter Tryz.func168, Tryz.ntmps168
    go_wp2
    go_ret
    exact ⟨by rw [hz.out]; rfl, rfl⟩
  · have t : ((i : Int) == (j : Int)) = false := by rw [beq_eq_false_iff_ne]; omega
    have hz : Hid ((((idEl i j).toNat : Nat) : Int) = 0) := Lib.hid (by rw [idEl, if_neg h]; rfl)
    clear h
    go_enter Tryz.func168, Tryz.ntmps168
    go_wp2
    go_ret
    exact ⟨by rw [hz.out]; rfl, rfl⟩
theorem xor_pos' {a b : Nat} (h : a ≠ b) : a ^^^ b ≠ 0 := fun e => h (by
  have : a ^^^ b ^^^ b = 0 ^^^ b := by rw [e]
  rwa [Nat.xor_assoc, Nat.xor_self, Nat.xor_zero, Nat.zero_xor] at this)
theorem u8_wrap (n : Int) (h1 : 0 ≤ n) (h2 : n < 256) : IntKind.u8.wrap n = n := by
  simp [IntKind.wrap, IntKind.bits, IntKind.signed]; omega
set_option maxRecDepth 100000 in
theorem cyel_any (i j m : Nat) (a : Addr) (w : World) (ht : Tabs w) (hi : i < m) (hm : m ≤ 16) (hj : j < 16) (ha : w.cell? a = some (.int .i64 (m : Int))) :
    Calls Tryz.prog 151 #[.int .i64 (i : Int), .int .i64 (j : Int), .pointer (some a)] w fun e w' => e = .returned (.int .u8 (((cyEl m i j).toNat : Nat) : Int)) ∧ w = w' := by
  have hx := Gf.xor_lt (x := i) (y := m + j) (by omega) (by omega)
  have hp := xor_pos' (a := i) (b := m + j) (by omega)
  have hz : Hid ((((cyEl m i j).toNat : Nat) : Int) = ((Gf.gi (i ^^^ (m + j)) : Nat) : Int)) := Lib.hid (by rw [cyEl_toNat])
  have u1 := u8_wrap (i : Int) (by omega) (by omega)
  have u2 := u8_wrap ((m : Int) + (j : Int)) (by omega) (by omega)
  have hadd := add_any (i : Int) ((m : Int) + (j : Int)) w (by omega) (by omega) (by omega) (by omega)
  rw [show (i : Int).toNat = i by omega, show ((m : Int) + (j : Int)).toNat = m + j by omega] at hadd
  generalize i ^^^ (m + j) = x at *
  have hinv := inv_some (x : Int) w ht (by omega) (by omega)
  rw [show (x : Int).toNat = x by omega] at hinv
  clear hx hp
  go_enter Tryz.func151, Tryz.ntmps151
  go_wp2_with (first
    | (go_at_call 153; ((with_reducible refine hadd.mono ?_); rintro e w3 ⟨rfl, rfl⟩))
    | (go_at_call 152; ((with_reducible refine hinv.mono ?_); rintro e w3 ⟨rfl, rfl⟩)))
  go_ret
  exact ⟨by rw [hz.out]; rfl, rfl⟩
def idL (n : Int) : List ByteArray := if fitsB n then mkM idEl n.toNat n.toNat else []
def idE (n : Int) : Int := if fitsB n then 0 else 20
set_option maxRecDepth 100000 in
theorem identity_any (n : Int) (w : World) :
    Calls Tryz.prog 140 #[.int .i64 n] w (GivesL w (idL n) (idE n)) := by
  have hf := fits_any n w
  cases h : fitsB n with
  | true =>
    have h1 : 1 ≤ n ∧ n ≤ 16 := by simpa [fitsB] using h
    have hz1 : Hid (idL n = mkM idEl n.toNat n.toNat) := Lib.hid (by rw [idL, if_pos h])
    have hz2 : Hid (idE n = 0) := Lib.hid (by rw [idE, if_pos h])
    rw [h] at hf
    obtain ⟨n, rfl⟩ := Int.eq_ofNat_of_zero_le (show 0 ≤ n by omega)
    have hb := build_id n n idEl w (by omega) (by omega) (fun i j hi hj W _ => idel_any i j W (by omega) (by omega))
    rw [show ((n : Int)).toNat = n by omega] at hz1
    clear h h1
    go_enter Tryz.func140, Tryz.ntmps140
    go_wp2_with (first
      | (go_at_call 149; ((with_reducible refine hf.mono ?_); rintro e w3 ⟨rfl, rfl⟩))
      | (go_at_call 150; ((with_reducible refine hb.mono ?_); rintro e w3 ⟨v, rfl, hown, hbel⟩)))
    go_ret2
    exact ⟨v, by rw [hz2.out]; rfl, by rw [hz1.out]; exact hown, hbel⟩
  | false =>
    have hz1 : Hid (idL n = []) := Lib.hid (by rw [idL, h]; rfl)
    have hz2 : Hid (idE n = 20) := Lib.hid (by rw [idE, h]; rfl)
    rw [h] at hf
    clear h
    go_enter Tryz.func140, Tryz.ntmps140
    go_wp2_with (go_at_call 149; ((with_reducible refine hf.mono ?_); rintro e w3 ⟨rfl, rfl⟩))
    go_ret2
    exact ⟨.slice none 0 0, by rw [hz2.out]; rfl, by rw [hz1.out]; exact Own.nil _ _ _, Below.refl _ _⟩
def cyL (k m : Int) : List ByteArray := if fitsB k && fitsB m then mkM (cyEl m.toNat) m.toNat k.toNat else []
def cyE (k m : Int) : Int := if fitsB k && fitsB m then 0 else 20
set_option maxRecDepth 100000 in
theorem cauchy_any (k m : Int) (w : World) (ht : Tabs w) :
    Calls Tryz.prog 121 #[.int .i64 k, .int .i64 m] w (GivesL w (cyL k m) (cyE k m)) := by
  cases h : fitsB k with
  | true =>
    cases h' : fitsB m with
    | true =>
      have h1 : 1 ≤ k ∧ k ≤ 16 := by simpa [fitsB] using h
      have h2 : 1 ≤ m ∧ m ≤ 16 := by simpa [fitsB] using h'
      have hz1 : Hid (cyL k m = mkM (cyEl m.toNat) m.toNat k.toNat) := Lib.hid (by rw [cyL, h, h']; rfl)
      have hz2 : Hid (cyE k m = 0) := Lib.hid (by rw [cyE, h, h']; rfl)
      have hf := fun W => fits_any k W
      have hf' := fun W => fits_any m W
      rw [h] at hf
      rw [h'] at hf'
      obtain ⟨k, rfl⟩ := Int.eq_ofNat_of_zero_le (show 0 ≤ k by omega)
      obtain ⟨m, rfl⟩ := Int.eq_ofNat_of_zero_le (show 0 ≤ m by omega)
      rw [show ((m : Int)).toNat = m by omega, show ((k : Int)).toNat = k by omega] at hz1
      have hb := fun W0 (hW0 : Tabs W0) a (hlt : a.block < W0.heap.size) (hc : W0.cell? a = some (.int .i64 (m : Int))) => build_cauchy m k (cyEl m) W0 a (by omega) (by omega) (fun i j hi hj W hW => cyel_any i j m a W (hW0.below hW hW0.two) hi (by omega) (by omega) (by rw [hW.cell hlt]; exact hc))
      clear h h1 h' h2
      have htw := ht.alloc (.cells #[.int .i64 (m : Int)] 3)
      have hb2 := hb _ htw ⟨w.heap.size, 0, none⟩ (by simp) (by rw [World.cell?_alloc_mark]; rfl)
      clear hb
      go_enter Tryz.func121, Tryz.ntmps121
      go_wp2_with (first
        | (go_at_call 149; ((with_reducible refine (hf _).mono ?_); rintro e w3 ⟨rfl, rfl⟩))
        | (go_at_call 149; ((with_reducible refine (hf' _).mono ?_); rintro e w3 ⟨rfl, rfl⟩))
        | (go_at_call 150; ((with_reducible refine hb2.mono ?_); rintro e w3 ⟨v, rfl, hown, hbel⟩)))
      go_ret2
      exact ⟨v, by rw [hz2.out]; rfl, by rw [hz1.out]; exact hown.mono (by simp), ((Below.refl _ w).alloc (Nat.le_refl _) _).trans (hbel.mono (by simp))⟩
    | false =>
      have hz1 : Hid (cyL k m = []) := Lib.hid (by rw [cyL, h, h']; rfl)
      have hz2 : Hid (cyE k m = 20) := Lib.hid (by rw [cyE, h, h']; rfl)
      have hf := fun W => fits_any k W
      have hf' := fun W => fits_any m W
      rw [h] at hf
      rw [h'] at hf'
      clear h h'
      go_enter Tryz.func121, Tryz.ntmps121
      go_wp2_with (first
        | (go_at_call 149; ((with_reducible refine (hf _).mono ?_); rintro e w3 ⟨rfl, rfl⟩))
        | (go_at_call 149; ((with_reducible refine (hf' _).mono ?_); rintro e w3 ⟨rfl, rfl⟩)))
      go_ret2
      exact ⟨.slice none 0 0, by rw [hz2.out]; rfl, by rw [hz1.out]; exact Own.nil _ _ _, (Below.refl _ w).alloc (Nat.le_refl _) _⟩
  | false =>
    have hz1 : Hid (cyL k m = []) := Lib.hid (by rw [cyL, h]; rfl)
    have hz2 : Hid (cyE k m = 20) := Lib.hid (by rw [cyE, h]; rfl)
    have hf := fun W => fits_any k W
    rw [h] at hf
    clear h
    go_enter Tryz.func121, Tryz.ntmps121
    go_wp2_with (go_at_call 149; ((with_reducible refine (hf _).mono ?_); rintro e w3 ⟨rfl, rfl⟩))
    go_ret2
    exact ⟨.slice none 0 0, by rw [hz2.out]; rfl, by rw [hz1.out]; exact Own.nil _ _ _, (Below.refl _ w).alloc (Nat.le_refl _) _⟩
end Go.Proofs.YtjgafpkpoppcbaaGreatDoor
end
section
namespace Go.Proofs.YtjgafpkpoppcbaaGreatDoor
open Go.RowKit
def bt (s : ByteArray) (i : Nat) : Nat := (s.data[i]?.getD 0).toNat
theorem bt_lt (s : ByteArray) (i : Nat) : bt s i < 256 := UInt8.toNat_lt _
theorem bt_get {s : ByteArray} {i : Nat} (h : i < s.size) : (s[i]).toNat = bt s i := by
  unfold bt; rw [Array.getElem?_eq_getElem (by simpa using h)]; rfl
def pvt (l : List ByteArray) (c : Nat) : Nat → Nat → Nat
  | 0, at_ => at_
  | f + 1, at_ => if bt (l.getD at_ ⟨#[]⟩) c = 0 then pvt l c f (at_ + 1) else at_
theorem pvt_spec (l : List ByteArray) (c : Nat) : ∀ f k, k ≤ pvt l c f k ∧ pvt l c f k ≤ k + f ∧ (pvt l c f k < k + f → bt (l.getD (pvt l c f k) ⟨#[]⟩) c ≠ 0) ∧ ∀ j, k ≤ j → j < pvt l c f k → bt (l.getD j ⟨#[]⟩) c = 0
  | 0, k => ⟨Nat.le_refl _, Nat.le_refl _, fun h => absurd h (by simp [pvt]), fun j h1 h2 => absurd h2 (by simp [pvt]; omega)⟩
  | f + 1, k => by
    rw [pvt]
    by_cases h : bt (l.getD k ⟨#[]⟩) c = 0
    · rw [if_pos h]
      obtain ⟨h1, h2, h3, h4⟩ := pvt_spec l c f (k + 1)
      refine ⟨by omega, by omega, fun hh => h3 (by omega), fun j hj1 hj2 => ?_⟩
      by_cases e : j = k
      · subst e; exact h
      · exact h4 j (by omega) hj2
    · rw [if_neg h]
      exact ⟨Nat.le_refl _, by omega, fun _ => h, fun j h1 h2 => by omega⟩
set_option maxRecDepth 100000 in
set_option maxHeartbeats 1000000 in
theorem pivot_any (b off cap : Nat) (l : List ByteArray) (c : Nat) (w : World) (hS : SRow w b off l) (hL : l.length ≤ 1000) (hc : c ≤ l.length) (hm : ∀ i, i < l.length → c < (l.getD i ⟨#[]⟩).size ∧ (l.getD i ⟨#[]⟩).size ≤ 1000000) :
    Calls Tryz.prog 141 #[.slice (some ⟨b, off, none⟩) l.length cap, .int .i64 (c : Int)] w fun e w' => e = .returned (.int .i64 (pvt l c (l.length - c) c : Nat)) ∧ w = w' := by
  obtain ⟨p, hp⟩ : ∃ p, pvt l c (l.length - c) c = p := ⟨_, rfl⟩
  have hp' := Lib.hid hp
  rw [hp]
  clear hp
  go_enter Tryz.func141, Tryz.ntmps141
  go_wp2
  go_step3
  go_wp2
  go_step3
  go_wp2
  go_loopw [5, 19] (fun i _ wr => ∃ k : Nat, k ≤ l.length ∧ i = .int .i64 (k : Int) ∧ w = wr ∧ Hid (pvt l c (l.length - k) k = p)) (fun i _ _ => l.length - (RowKit.intOf i).toNat)
  case atStart => exact ⟨c, by omega, rfl, rfl, hp'⟩
  case round =>
    obtain ⟨k, hk, rfl, rfl, hpk⟩ := hrel
    by_cases hlt : k < l.length
    · have hc1 := hS.cell k hlt
      have hmk := hm k hlt
      have b1 : (k : Int) < (l.length : Int) := by omega
      have hst := hpk.out
      rw [show l.length - k = (l.length - (k + 1)) + 1 by omega, pvt] at hst
      by_cases h0 : bt (l.getD k ⟨#[]⟩) c = 0
      · rw [if_pos h0] at hst
        have hst' := Lib.hid hst
        clear hst hpk
        generalize l.getD k ⟨#[]⟩ = rk at *
        obtain ⟨m1, m2⟩ := hmk
        have b2 : (c : Int) < (rk.size : Int) := by omega
        have t : (((rk[c]).toNat : Int) == 0) = true := by rw [bt_get m1, h0]; rfl
        clear h0
        go_wp2
        go_roundw
        case rel => exact ⟨k + 1, by omega, by go_num, (by first | rfl | trivial), hst'⟩
        case measure => simp [RowKit.intOf]; omega
      · rw [if_neg h0] at hst
        have hst' := Lib.hid hst
        clear hst hpk
        generalize l.getD k ⟨#[]⟩ = rk at *
        obtain ⟨m1, m2⟩ := hmk
        have b2 : (c : Int) < (rk.size : Int) := by omega
        have t : (((rk[c]).toNat : Int) == 0) = false := by rw [bt_get m1, beq_eq_false_iff_ne]; omega
        clear h0
        go_wp2
        rw [Exit.noGoto_ret]
        go_ret
        exact ⟨by rw [hst'.out]; rfl, rfl⟩
    · have e : k = l.length := by omega
      subst e
      have hst := hpk.out
      rw [show l.length - l.length = 0 by omega, pvt] at hst
      have hst' := Lib.hid hst
      clear hst hpk
      go_wp2
      rw [Exit.noGoto_ret]
      go_ret
      exact ⟨by rw [← hst'.out]; rfl, rfl⟩
def ownRow (l : List ByteArray) (c : Nat) : ByteArray := mulAdd (zrow (l.getD c ⟨#[]⟩).size) (Gf.gi (bt (l.getD c ⟨#[]⟩) c)) (l.getD c ⟨#[]⟩)
def redRow (o : ByteArray) (c : Nat) (r : ByteArray) : ByteArray := mulAdd r (bt r c) o
def redTo (l : List ByteArray) (c : Nat) (o : ByteArray) (k : Nat) : List ByteArray := (l.take k).map (redRow o c) ++ l.drop k
def redL (l : List ByteArray) (c : Nat) : List ByteArray := (l.map (redRow (ownRow l c) c)).set c (ownRow l c)
theorem redTo_length (l : List ByteArray) (c : Nat) (o : ByteArray) (k : Nat) : (redTo l c o k).length = l.length := by simp [redTo]; omega
theorem redTo_zero (l : List ByteArray) (c : Nat) (o : ByteArray) : redTo l c o 0 = l := by simp [redTo]
theorem redTo_all (l : List ByteArray) (c : Nat) (o : ByteArray) : redTo l c o l.length = l.map (redRow o c) := by simp [redTo]
theorem redTo_at (l : List ByteArray) (c : Nat) (o : ByteArray) (k : Nat) : (redTo l c o k).getD k ⟨#[]⟩ = l.getD k ⟨#[]⟩ := by
  simp only [redTo, List.getD_eq_getElem?_getD]
  rw [List.getElem?_append]
  split
  · rename_i h
    rw [List.length_map, List.length_take] at h
    omega
  · rename_i h
    rw [List.length_map, List.length_take] at h
    rw [List.length_map, List.length_take, List.getElem?_drop]
    rcases Nat.lt_or_ge k l.length with h1 | h1
    · congr 2; omega
    · rw [List.getElem?_eq_none (by omega), List.getElem?_eq_none h1]
theorem redTo_succ (l : List ByteArray) (c : Nat) (o : ByteArray) {k : Nat} (h : k < l.length) : redTo l c o (k + 1) = (redTo l c o k).set k (redRow o c (l.getD k ⟨#[]⟩)) := by
  apply List.ext_getElem
  · rw [List.length_set, redTo_length, redTo_length]
  · intro j h1 h2
    rw [redTo_length] at h1
    rw [List.getElem_set]
    simp only [redTo, List.getElem_append, List.length_map, List.length_take, List.getElem_map, List.getElem_take, List.getElem_drop]
    by_cases e : k = j
    · subst e; rw [if_pos rfl, dif_pos (by omega), List.getD_eq_getElem?_getD, List.getElem?_eq_getElem h]; rfl
    · rw [if_neg e]
      by_cases e2 : j < k
      · rw [dif_pos (by omega), dif_pos (by omega)]
      · rw [dif_neg (by omega), dif_neg (by omega)]
        congr 1; omega
set_option maxRecDepth 100000 in
set_option maxHeartbeats 1000000 in
theorem reduce_any (g cap B : Nat) (l : List ByteArray) (c : Nat) (w : World) (ht : Tabs w) (hB : 2 ≤ B) (ho : Own w B 9 (.slice (some ⟨g, 0, none⟩) l.length cap) (tx l)) (hL : l.length ≤ 1000) (hc : c < l.length) (hm : ∀ i, i < l.length → c < (l.getD i ⟨#[]⟩).size ∧ (l.getD i ⟨#[]⟩).size ≤ 1000000) (h0 : bt (l.getD c ⟨#[]⟩) c ≠ 0) :
    Calls Tryz.prog 142 #[.slice (some ⟨g, 0, none⟩) l.length cap, .int .i64 (c : Int)] w fun e w' => e = .returned (.tuple #[]) ∧ Own w' B 9 (.slice (some ⟨g, 0, none⟩) l.length cap) (tx (redL l c)) ∧ Below B w w' := by
  have hgl := ho.lt
  have hcc := ho.cell (i := c) (by simpa using hc)
  rw [tx_getD l hc] at hcc
  have hmc := hm c hc
  obtain ⟨rc, hrc⟩ : ∃ r, l.getD c ⟨#[]⟩ = r := ⟨_, rfl⟩
  have hrl : Hid (redL l c = (l.map (redRow (ownRow l c) c)).set c (ownRow l c)) := Lib.hid rfl
  have hor : ownRow l c = mulAdd (zrow rc.size) (Gf.gi (bt rc c)) rc := by rw [ownRow, hrc]
  obtain ⟨o, hoo⟩ : ∃ o, ownRow l c = o := ⟨_, rfl⟩
  have hos : o.size = rc.size := by rw [← hoo, hor, mulAdd_size, zrow_size]
  rw [hrc] at hcc hmc h0
  rw [hoo] at hor
  rw [hoo] at hrl
  have hor' := Lib.hid hor
  obtain ⟨mc1, mc2⟩ := hmc
  have hgi := Gf.gi_lt (bt rc c)
  have hbl := bt_lt rc c
  have hinv := inv_some ((rc[c]).toNat : Int) w ht (by rw [bt_get mc1]; omega) (by rw [bt_get mc1]; omega)
  rw [show ((rc[c]).toNat : Int).toNat = bt rc c by rw [bt_get mc1]; omega] at hinv
  have hzs := fun W => zeros_any rc.size W (by omega)
  have hma := fun W hW => muladd_any (zrow rc.size) rc ((Gf.gi (bt rc c) : Nat) : Int) W hW (by omega) (by omega) (by rw [zrow_size]; unfold maxLen; omega) (by unfold maxLen; omega)
  rw [show ((Gf.gi (bt rc c) : Nat) : Int).toNat = Gf.gi (bt rc c) by omega, ← hor] at hma
  have b1 : (c : Int) < (l.length : Int) := by omega
  have b2 : (c : Int) < (rc.size : Int) := by omega
  clear hor hrc hoo
  go_enter Tryz.func142, Tryz.ntmps142
  go_wp2_with (go_at_call 152; ((with_reducible refine hinv.mono ?_); rintro e w3 ⟨rfl, rfl⟩))
  refine wp_region_cls (Below w.heap.size w) (by kernel_rfl) (by kernel_rfl) (Below.refl _ _).drew ?_
  intro Z f hne hD hE
  have hzc : ∀ z, (f z).cell? ⟨g, c, none⟩ = some (.string rc) := fun z => by rw [(hD z).cell (p := ⟨g, c, none⟩) hgl.2]; exact hcc
  have hzt : ∀ z, Tabs (f z) := fun z => ht.below (hD z) ht.two
  repeat (go_big_quiet_step (first
    | (go_at_call 170; exact toQB hD hE _ (hzs _))
    | (go_at_call 169; exact toQB hD hE _ (hma _ (hzt _)))))
  refine wpQuiet_nil ?_
  intro _ hw'
  obtain ⟨zq, hw''⟩ := hw'
  subst hw''
  have hz := hD zq
  clear hzc hzt hE
  generalize f zq = w6 at *
  clear hD
  have ho6 := ho.after hz
  have ht6 := ht.below hz ht.two
  go_wp2
  go_loopw [7, 8, 33] (fun _ _ i wr => ∃ k : Nat, k ≤ l.length ∧ i = .int .i64 (k : Int) ∧ Own wr B 9 (.slice (some ⟨g, 0, none⟩) l.length cap) (tx (redTo l c o k)) ∧ Below B w wr) (fun _ _ i _ => l.length - (RowKit.intOf i).toNat)
  case atStart => exact ⟨0, by omega, rfl, by rw [redTo_zero]; exact ho6, hz.mono (by omega)⟩
  case round =>
    obtain ⟨k, hk, rfl, hown, hbel⟩ := hrel
    by_cases hlt : k < l.length
    · have hck := hown.cell (i := k) (by rw [List.length_map, redTo_length]; exact hlt)
      rw [tx_getD _ (by rw [redTo_length]; exact hlt), redTo_at] at hck
      have hmk := hm k hlt
      have htk : Tabs wr := ht.below hbel hB
      have hlk := hown.lt
      have b3 : (k : Int) < (l.length : Int) := by omega
      have hnx : Hid (tx (redTo l c o (k + 1)) = (tx (redTo l c o k)).set k (.string (redRow o c (l.getD k ⟨#[]⟩)))) := Lib.hid (by rw [redTo_succ _ _ _ hlt, tx, List.map_set])
      generalize l.getD k ⟨#[]⟩ = rk at *
      obtain ⟨m1, m2⟩ := hmk
      have b4 : (c : Int) < (rk.size : Int) := by omega
      have hbk := bt_lt rk c
      have hmk := muladd_any rk o ((rk[c]).toNat : Int) wr htk (by omega) (by rw [bt_get m1]; omega) (by unfold maxLen; omega) (by unfold maxLen; omega)
      rw [show ((rk[c]).toNat : Int).toNat = bt rk c by rw [bt_get m1]; omega] at hmk
      rw [show mulAdd rk (bt rk c) o = redRow o c rk from rfl] at hmk
      clear hma hinv
      go_wp2_with (go_at_call 169; ((with_reducible refine hmk.mono ?_); rintro e w7 ⟨rfl, hb7⟩; have hown7 := hown.after hb7; have hfz := hown7.frozen k; have hcl := hown7.cell (i := k) (by rw [List.length_map, redTo_length]; exact hlt)))
      go_roundw
      case rel => exact ⟨k + 1, by omega, by go_num, by rw [hnx.out]; exact hown7.set k _, (hbel.trans (hb7.mono (by omega))).setCell (by simp; omega) _⟩
      case measure => simp [RowKit.intOf]; omega
    · have e : k = l.length := by omega
      subst e
      have hfz := hown.frozen c
      have hcl := hown.cell (i := c) (by rw [List.length_map, redTo_length]; exact hc)
      clear hma hinv
      go_wp2
      go_end0
      rw [redTo_all] at hown
      exact ⟨rfl, by rw [hrl.out, tx, List.map_set]; exact hown.set c _, hbel.setCell (by simp; omega) _⟩
end Go.Proofs.YtjgafpkpoppcbaaGreatDoor
end
section
namespace Go.Proofs.YtjgafpkpoppcbaaGreatDoor
open Go.RowKit
def swapL (l : List ByteArray) (i j : Nat) : List ByteArray := (l.set i (l.getD j ⟨#[]⟩)).set j (l.getD i ⟨#[]⟩)
theorem swapL_length (l : List ByteArray) (i j : Nat) : (swapL l i j).length = l.length := by simp [swapL]
theorem swapL_get (l : List ByteArray) {i j k : Nat} (hi : i < l.length) (hj : j < l.length) : (swapL l i j).getD k ⟨#[]⟩ = l.getD (Mx.swp i j k) ⟨#[]⟩ := by
  unfold swapL Mx.swp
  simp only [List.getD_eq_getElem?_getD, List.getElem?_set, List.length_set]
  by_cases h2 : j = k
  · subst h2
    rw [if_pos rfl, if_pos hj]
    by_cases h1 : j = i
    · subst h1; rw [if_pos rfl]; rfl
    · rw [if_neg h1, if_pos rfl]; rfl
  · rw [if_neg h2]
    by_cases h1 : i = k
    · subst h1; rw [if_pos rfl, if_pos hi, if_pos rfl]; rfl
    · rw [if_neg h1, if_neg (Ne.symm h1), if_neg (Ne.symm h2)]
def gj : Nat → Nat → List ByteArray → Option (List ByteArray)
  | 0, _, l => some l
  | f + 1, c, l => if pvt l c (l.length - c) c = l.length then none else gj f (c + 1) (redL (swapL l c (pvt l c (l.length - c) c)) c)
def stL (a : List ByteArray) : List ByteArray := (List.range a.length).map fun i => a.getD i ⟨#[]⟩ ++ (mkM idEl a.length a.length).getD i ⟨#[]⟩
def halfL (n : Nat) (l : List ByteArray) : List ByteArray := l.map fun r => r.extract n r.size
def sqB (a : List ByteArray) : Bool := mR a && ((a.getD 0 ⟨#[]⟩).size == a.length)
def invL (a : List ByteArray) : List ByteArray := if sqB a then (match gj a.length 0 (stL a) with | some l => halfL a.length l | none => []) else []
def invE (a : List ByteArray) : Int := if sqB a then (match gj a.length 0 (stL a) with | some _ => 0 | none => 21) else 20
theorem sqB_facts {l : List ByteArray} (h : sqB l = true) : mR l = true ∧ 1 ≤ l.length ∧ l.length ≤ 16 ∧ ∀ i, i < l.length → (l.getD i ⟨#[]⟩).size = l.length := by
  unfold sqB at h
  rw [Bool.and_eq_true] at h
  obtain ⟨h1, h2⟩ := h
  obtain ⟨k1, k2, k3, k4, k5⟩ := mR_facts h1
  have h2' : (l.getD 0 ⟨#[]⟩).size = l.length := by simpa using h2
  exact ⟨h1, k1, k2, fun i hi => by rw [k5 i hi, h2']⟩
theorem mkM_length (el : Nat → Nat → UInt8) (m n : Nat) : (mkM el m n).length = m := by simp [mkM]
theorem mkM_get (el : Nat → Nat → UInt8) {m n i : Nat} (h : i < m) : (mkM el m n).getD i ⟨#[]⟩ = lineOf ((List.range n).map (el i)) := by
  simp [mkM, List.getD_eq_getElem?_getD, h]
theorem mkM_size (el : Nat → Nat → UInt8) {m n i : Nat} (h : i < m) : ((mkM el m n).getD i ⟨#[]⟩).size = n := by
  rw [mkM_get el h]; show (lineOf _).data.size = n; simp [lineOf]
theorem app_size (a b : ByteArray) : (a ++ b).size = a.size + b.size := ByteArray.size_append
theorem swapL_tx (l : List ByteArray) (i j : Nat) : tx (swapL l i j) = ((tx l).set i (.string (l.getD j ⟨#[]⟩))).set j (.string (l.getD i ⟨#[]⟩)) := by
  rw [swapL, tx, List.map_set, List.map_set]
theorem redL_length (l : List ByteArray) (c : Nat) : (redL l c).length = l.length := by simp [redL]
theorem redL_get (l : List ByteArray) {c i : Nat} (hi : i < l.length) : (redL l c).getD i ⟨#[]⟩ = if i = c then ownRow l c else redRow (ownRow l c) c (l.getD i ⟨#[]⟩) := by
  simp only [redL, List.getD_eq_getElem?_getD, List.getElem?_set, List.length_map, List.getElem?_map, List.getElem?_eq_getElem hi]
  by_cases h : c = i
  · subst h; rw [if_pos rfl, if_pos hi, if_pos rfl]; rfl
  · rw [if_neg h, if_neg (Ne.symm h)]; rfl
theorem redL_size (l : List ByteArray) {c i L : Nat} (hc : c < l.length) (hi : i < l.length) (h : ∀ j, j < l.length → (l.getD j ⟨#[]⟩).size = L) : ((redL l c).getD i ⟨#[]⟩).size = L := by
  rw [redL_get l hi]
  split
  · rw [ownRow, mulAdd_size, zrow_size]; exact h c hc
  · rw [redRow, mulAdd_size]; exact h i hi
theorem swp_lt' {a b i n : Nat} (ha : a < n) (hb : b < n) (hi : i < n) : Mx.swp a b i < n := Mx.swp_lt ha hb hi
def halfTo (n : Nat) (l : List ByteArray) (k : Nat) : List ByteArray := (l.take k).map (fun r => r.extract n r.size) ++ l.drop k
theorem halfTo_length (n : Nat) (l : List ByteArray) (k : Nat) : (halfTo n l k).length = l.length := by simp [halfTo]; omega
theorem halfTo_zero (n : Nat) (l : List ByteArray) : halfTo n l 0 = l := by simp [halfTo]
theorem halfTo_all (n : Nat) (l : List ByteArray) : halfTo n l l.length = halfL n l := by simp [halfTo, halfL]
theorem halfTo_at (n : Nat) (l : List ByteArray) (k : Nat) : (halfTo n l k).getD k ⟨#[]⟩ = l.getD k ⟨#[]⟩ := by
  simp only [halfTo, List.getD_eq_getElem?_getD]
  rw [List.getElem?_append]
  split
  · rename_i h
    rw [List.length_map, List.length_take] at h
    omega
  · rename_i h
    rw [List.length_map, List.length_take] at h
    rw [List.length_map, List.length_take, List.getElem?_drop]
    rcases Nat.lt_or_ge k l.length with h1 | h1
    · congr 2; omega
    · rw [List.getElem?_eq_none (by omega), List.getElem?_eq_none h1]
theorem halfTo_succ (n : Nat) (l : List ByteArray) {k : Nat} (h : k < l.length) : tx (halfTo n l (k + 1)) = (tx (halfTo n l k)).set k (.string ((l.getD k ⟨#[]⟩).extract n (l.getD k ⟨#[]⟩).size)) := by
  have e : halfTo n l (k + 1) = (halfTo n l k).set k ((l.getD k ⟨#[]⟩).extract n (l.getD k ⟨#[]⟩).size) := by
    apply List.ext_getElem
    · rw [List.length_set, halfTo_length, halfTo_length]
    · intro j h1 h2
      rw [halfTo_length] at h1
      rw [List.getElem_set]
      simp only [halfTo, List.getElem_append, List.length_map, List.length_take, List.getElem_map, List.getElem_take, List.getElem_drop]
      by_cases e : k = j
      · subst e; rw [if_pos rfl, dif_pos (by omega), List.getD_eq_getElem?_getD, List.getElem?_eq_getElem h]; rfl
      · rw [if_neg e]
        by_cases e2 : j < k
        · rw [dif_pos (by omega), dif_pos (by omega)]
        · rw [dif_neg (by omega), dif_neg (by omega)]
          congr 1; omega
  rw [e, tx, List.map_set]
theorem inv_bad (w : World) (a : List ByteArray) (h : Hid (sqB a = false)) (W : World) (hb : Below w.heap.size w W) : GivesL w (invL a) (invE a) (.returned (.tuple #[.slice none 0 0, .int .i64 20])) W :=
  ⟨.slice none 0 0, by rw [invE, h.out]; rfl, by rw [invL, h.out]; exact Own.nil _ _ _, hb⟩
set_option maxRecDepth 100000 in
set_option maxHeartbeats 2000000 in
theorem inverse_any (va : Value) (a : List ByteArray) (w : World) (ht : Tabs w) (hA : Reads w va (tx a)) (fa : Fits a) :
    Calls Tryz.prog 109 #[va] w (GivesL w (invL a) (invE a)) := by
  have ra := right_r va a w hA fa
  cases h1 : mR a with
  | false =>
    have hz : Hid (sqB a = false) := Lib.hid (by simp [sqB, h1])
    rw [h1] at ra
    clear h1
    go_enter Tryz.func109, Tryz.ntmps109
    go_wp2_with (go_at_call 139; ((with_reducible refine ra.mono ?_); rintro e w' ⟨rfl, rfl⟩))
    go_ret2
    exact inv_bad w a hz _ (Below.refl _ _)
  | true =>
    obtain ⟨k1, k2, k3, k4, k5⟩ := mR_facts h1
    rw [h1] at ra
    rcases hA.srow with ⟨_, rfl⟩ | ⟨ba, oa, ca, rfl, hSa⟩
    · simp at k1
    have hc0 := hSa.cell 0 (by omega)
    rw [Nat.add_zero] at hc0
    obtain ⟨s0, hs0⟩ : ∃ r, a.getD 0 ⟨#[]⟩ = r := ⟨_, rfl⟩
    cases h2 : (s0.size == a.length) with
    | false =>
      have hz : Hid (sqB a = false) := Lib.hid (by rw [sqB, hs0, h2]; simp)
      have t3 : (((s0.size : Nat) : Int) != ((a.length : Nat) : Int)) = true := by rw [bne_iff_ne]; rw [beq_eq_false_iff_ne] at h2; omega
      rw [hs0] at hc0
      clear h1 h2 hs0 k5
      go_enter Tryz.func109, Tryz.ntmps109
      go_wp2_with (go_at_call 139; ((with_reducible refine ra.mono ?_); rintro e w' ⟨rfl, rfl⟩))
      go_ret2
      exact inv_bad w a hz _ (Below.refl _ _)
    | true =>
      have hz : Hid (sqB a = true) := Lib.hid (by rw [sqB, hs0, h2, h1]; rfl)
      have hsz : Hid (∀ i, i < a.length → (a.getD i ⟨#[]⟩).size = a.length) := Lib.hid (sqB_facts hz.out).2.2.2
      have t3 : (((s0.size : Nat) : Int) != ((a.length : Nat) : Int)) = false := by rw [beq_iff_eq] at h2; rw [h2]; exact bne_self_eq_false _
      rw [hs0] at hc0
      have hidn := identity_any (a.length : Int) w
      rw [idL, idE, if_pos (by simp [fitsB]; omega), if_pos (by simp [fitsB]; omega), show ((a.length : Int)).toNat = a.length by omega] at hidn
      clear h1 h2 hs0 k5
      obtain ⟨i0, hi, hz0, hz1, hz2⟩ := info_parts Tryz.infoS
      have hmk := fun W => Own.make_run (P := Tryz.prog) (T := 39) Tryz.underlying39 hi hz0 hz1 hz2 rfl W a.length (by omega) (by omega)
      go_enter Tryz.func109, Tryz.ntmps109
      go_wp2_with (first
        | (go_at_call 139; ((with_reducible refine ra.mono ?_); rintro e w' ⟨rfl, rfl⟩))
        | (go_at_call 140; ((with_reducible refine hidn.mono ?_); rintro e w1 ⟨v, rfl, hou, hb1⟩; obtain ⟨gu, cu, hvu, hgu1, hgu2⟩ := hou.form (by rw [List.length_map, mkM_length]; omega); subst hvu; rw [List.length_map, mkM_length] at *; obtain ⟨w2, hmk2, how, hbw⟩ := hmk w1; clear hmk)))
      have hgl := how.lt
      have hb2 : Below w.heap.size w w2 := hb1.trans (hbw.mono hb1.size)
      have hou2 := hou.after hbw
      have hz8 := hb1.size
      go_loopw [8, 34] (fun _ i wr => ∃ k : Nat, k ≤ a.length ∧ i = .int .i64 (k : Int) ∧ Own wr w1.heap.size 9 (.slice (some ⟨w1.heap.size, 0, none⟩) a.length a.length) (tx (linesTo (fun i => a.getD i ⟨#[]⟩ ++ (mkM idEl a.length a.length).getD i ⟨#[]⟩) a.length k)) ∧ Below w1.heap.size w1 wr) (fun _ i _ => a.length - (RowKit.intOf i).toNat)
      case atStart => exact ⟨0, by omega, rfl, by rw [linesTo_zero]; exact how, hbw⟩
      case round =>
        obtain ⟨k, hk, rfl, hown, hbel⟩ := hrel
        by_cases hlt : k < a.length
        · have hbelw : Below w.heap.size w wr := hb1.trans (hbel.mono hz8)
          have hca := (hSa.below hbelw).cell k hlt
          have hcu := (hou.after hbel).cell (i := k) (by rw [List.length_map, mkM_length]; exact hlt)
          rw [tx_getD _ (by rw [mkM_length]; exact hlt)] at hcu
          have hnx := Lib.hid (linesTo_succ (fun i => a.getD i ⟨#[]⟩ ++ (mkM idEl a.length a.length).getD i ⟨#[]⟩) hlt)
          have hkl : k < (tx (linesTo (fun i => a.getD i ⟨#[]⟩ ++ (mkM idEl a.length a.length).getD i ⟨#[]⟩) a.length k)).length := by rw [List.length_map, linesTo_length _ hk]; exact hlt
          have hfz := hown.frozen k
          have hcl := hown.cell (i := k) hkl
          have b1 : (k : Int) < (a.length : Int) := by omega
          have hrk := hsz.out k hlt
          have huk := mkM_size idEl (m := a.length) (n := a.length) hlt
          have hadd : ¬ 9223372036854775807 < (a.getD k ⟨#[]⟩).size + ((mkM idEl a.length a.length).getD k ⟨#[]⟩).size := by omega
          clear hrk huk
          generalize a.getD k ⟨#[]⟩ = rk at *
          generalize (mkM idEl a.length a.length).getD k ⟨#[]⟩ = uk at *
          clear hc0 hmk2
          go_wp2
          go_region
          all_goals
            go_wp2
            go_roundw
            case rel => exact ⟨k + 1, by omega, by go_num, by rw [hnx.out]; exact (hown.set k _).drew, (hbel.setCell (Nat.le_refl _) _).drew⟩
            case measure => simp [RowKit.intOf]; omega
        · have e : k = a.length := by omega
          subst e
          rw [linesTo_all] at hown
          have hsz0 : Hid (∀ i, i < a.length → ((stL a).getD i ⟨#[]⟩).size = a.length + a.length) := Lib.hid (fun i hi => by
            rw [stL, List.getD_eq_getElem?_getD, List.getElem?_map, List.getElem?_range hi]
            show (a.getD i ⟨#[]⟩ ++ (mkM idEl a.length a.length).getD i ⟨#[]⟩).size = _
            rw [app_size, hsz.out i hi, mkM_size _ hi])
          have hln0 : (stL a).length = a.length := by simp [stL]
          clear hmk2 how hou2 hbw
          go_wp2
          go_loopw [9, 10, 51] (fun _ _ i wr => ∃ (k : Nat) (l : List ByteArray), k ≤ a.length ∧ i = .int .i64 (k : Int) ∧ Own wr w1.heap.size 9 (.slice (some ⟨w1.heap.size, 0, none⟩) a.length a.length) (tx l) ∧ l.length = a.length ∧ Hid (∀ i, i < a.length → (l.getD i ⟨#[]⟩).size = a.length + a.length) ∧ Hid (gj a.length 0 (stL a) = gj (a.length - k) k l) ∧ Below w1.heap.size w1 wr) (fun _ _ i _ => a.length - (RowKit.intOf i).toNat)
          case atStart => exact ⟨0, stL a, by omega, rfl, hown, hln0, hsz0, Lib.hid rfl, hbel⟩
          case round =>
            obtain ⟨k, l, hk, rfl, hown, hll, hsl, hgj, hbel⟩ := hrel
            by_cases hlt : k < a.length
            · have hbelw : Below w.heap.size w wr := hb1.trans (hbel.mono hz8)
              have hSr : SRow wr w1.heap.size 0 l := ⟨fun i hi => by rw [Nat.zero_add, hown.cell (by simpa using hi), tx_getD l hi], hown.lt.2⟩
              have hpv := pivot_any w1.heap.size 0 a.length l k wr hSr (by omega) (by omega) (fun i hi => by rw [hsl.out i (by omega)]; omega)
              rw [hll] at hpv
              obtain ⟨q1, q2, q3, q4⟩ := pvt_spec l k (a.length - k) k
              have hgs := hgj.out
              rw [show a.length - k = (a.length - (k + 1)) + 1 by omega, gj, hll] at hgs
              obtain ⟨p, hp⟩ : ∃ p, pvt l k (a.length - k) k = p := ⟨_, rfl⟩
              rw [hp] at hpv q1 q2 q3 hgs
              by_cases he : p = a.length
              · rw [if_pos he] at hgs
                have hgs' := Lib.hid hgs
                subst he
                clear hgs hp hgj q3 q4 hc0
                go_wp2_with (go_at_call 141; ((with_reducible refine hpv.mono ?_); rintro e w' ⟨rfl, rfl⟩))
                go_ret2
                exact ⟨.slice none 0 0, by rw [invE, if_pos hz.out, hgs'.out]; rfl, by rw [invL, if_pos hz.out, hgs'.out]; exact Own.nil _ _ _, hbelw⟩
              · rw [if_neg he] at hgs
                have hgs' := Lib.hid hgs
                have hgj0 := hgj
                have hpl : p < a.length := by omega
                have hnz := q3 (by omega)
                have hck := hown.cell (i := k) (by rw [List.length_map]; omega)
                rw [tx_getD l (by omega)] at hck
                have hcp := hown.cell (i := p) (by rw [List.length_map]; omega)
                rw [tx_getD l (by omega)] at hcp
                have hfk := hown.frozen k
                have hfp := hown.frozen p
                have b1 : (k : Int) < (a.length : Int) := by omega
                have b2 : (p : Int) < (a.length : Int) := by omega
                have b3 : ((p : Int) == (a.length : Int)) = false := by rw [beq_eq_false_iff_ne]; omega
                have hlk : (swapL l k p).length = a.length := by rw [swapL_length, hll]
                have hsk : Hid (∀ i, i < a.length → ((swapL l k p).getD i ⟨#[]⟩).size = a.length + a.length) := Lib.hid (fun i hi => by rw [swapL_get l (by omega) (by omega)]; exact hsl.out _ (swp_lt' hlt hpl hi))
                have hrd := fun W (hW : Tabs W) (hO : Own W w1.heap.size 9 (.slice (some ⟨w1.heap.size, 0, none⟩) a.length a.length) (tx (swapL l k p))) => reduce_any w1.heap.size a.length w1.heap.size (swapL l k p) k W hW (Nat.le_trans ht.two hz8) (by rw [hlk]; exact hO) (by omega) (by omega) (fun i hi => by rw [hsk.out i (by omega)]; omega) (by rw [swapL_get l (by omega) (by omega), show Mx.swp k p k = p from if_pos rfl]; exact hnz)
                rw [hlk] at hrd
                have htx := Lib.hid (swapL_tx l k p)
                have hsr : Hid (∀ i, i < a.length → ((redL (swapL l k p) k).getD i ⟨#[]⟩).size = a.length + a.length) := Lib.hid (fun i hi => redL_size _ (by omega) (by omega) (fun j hj => hsk.out j (by omega)))
                have hlr : (redL (swapL l k p) k).length = a.length := by rw [redL_length, hlk]
                have htr : Tabs wr := ht.below hbelw ht.two
                have h2w : 2 ≤ w1.heap.size := Nat.le_trans ht.two hz8
                have hnx : Own wr w1.heap.size 9 (.slice (some ⟨w1.heap.size, 0, none⟩) a.length a.length) (tx l) := hown
                clear hgs hp hgj q3 q4 hc0 hown
                generalize l.getD k ⟨#[]⟩ = rk at *
                generalize l.getD p ⟨#[]⟩ = rp at *
                by_cases hkp : p = k
                · subst hkp
                  have e : rp = rk := by rw [hck] at hcp; simpa using hcp.symm
                  subst e
                  clear hcp hfp
                  go_wp2_with (go_at_call 141; ((with_reducible refine hpv.mono ?_); rintro e w' ⟨rfl, rfl⟩))
                  go_region
                  all_goals
                    have ho3 := ((hnx.set p (.string rp)).set p (.string rp)).drew
                    rw [← htx.out] at ho3
                    have hr3 := hrd _ ((htr.setCell (by simp; omega) _).setCell (by simp; omega) _).drew ho3
                    clear ho3
                    go_wp2_with (go_at_call 142; ((with_reducible refine hr3.mono ?_); rintro e w7 ⟨rfl, ho7, hb7⟩))
                    go_roundw
                    case rel => exact ⟨p + 1, redL (swapL l p p) p, by omega, by go_num, ho7, hlr, hsr, hgs', (((hbel.setCell (Nat.le_refl _) _).setCell (Nat.le_refl _) _).drew).trans hb7⟩
                    case measure => simp [RowKit.intOf]; omega
                · go_wp2_with (go_at_call 141; ((with_reducible refine hpv.mono ?_); rintro e w' ⟨rfl, rfl⟩))
                  go_region
                  all_goals
                    have ho3 := ((hnx.set k (.string rp)).set p (.string rk)).drew
                    rw [← htx.out] at ho3
                    have hr3 := hrd _ ((htr.setCell (by simp; omega) _).setCell (by simp; omega) _).drew ho3
                    clear ho3
                    go_wp2_with (go_at_call 142; ((with_reducible refine hr3.mono ?_); rintro e w7 ⟨rfl, ho7, hb7⟩))
                    go_roundw
                    case rel => exact ⟨k + 1, redL (swapL l k p) k, by omega, by go_num, ho7, hlr, hsr, hgs', (((hbel.setCell (Nat.le_refl _) _).setCell (Nat.le_refl _) _).drew).trans hb7⟩
                    case measure => simp [RowKit.intOf]; omega
            · have e : k = a.length := by omega
              subst e
              have hgs := hgj.out
              rw [show a.length - a.length = 0 by omega, gj] at hgs
              have hgs' := Lib.hid hgs
              clear hgs hgj hc0
              go_wp2
              go_loopw [11, 79] (fun _ i wr => ∃ q : Nat, q ≤ a.length ∧ i = .int .i64 (q : Int) ∧ Own wr w1.heap.size 9 (.slice (some ⟨w1.heap.size, 0, none⟩) a.length a.length) (tx (halfTo a.length l q)) ∧ Below w1.heap.size w1 wr) (fun _ i _ => a.length - (RowKit.intOf i).toNat)
              case atStart => exact ⟨0, by omega, rfl, by rw [halfTo_zero]; exact hown, hbel⟩
              case round =>
                obtain ⟨q, hq, rfl, hownq, hbelq⟩ := hrel
                by_cases hlq : q < a.length
                · have hcq := hownq.cell (i := q) (by rw [List.length_map, halfTo_length]; omega)
                  rw [tx_getD _ (by rw [halfTo_length]; omega), halfTo_at] at hcq
                  have hfq := hownq.frozen q
                  have hnq := Lib.hid (halfTo_succ a.length l (k := q) (by omega))
                  have b1 : (q : Int) < (a.length : Int) := by omega
                  have b2 := hsl.out q hlq
                  have b4 : (a.length : Int) ≤ ((l.getD q ⟨#[]⟩).size : Int) := by omega
                  have b5 : ((l.getD q ⟨#[]⟩).size : Int) ≤ 1000 := by omega
                  clear b2
                  generalize l.getD q ⟨#[]⟩ = rq at *
                  go_wp2
                  go_roundw
                  case rel => exact ⟨q + 1, by omega, by go_num, by rw [hnq.out]; exact hownq.set q _, hbelq.setCell (Nat.le_refl _) _⟩
                  case measure => simp [RowKit.intOf]; omega
                · have e : q = l.length := by omega
                  subst e
                  rw [halfTo_all] at hownq
                  go_wp2
                  go_ret2
                  exact ⟨.slice (some ⟨w1.heap.size, 0, none⟩) a.length a.length, by rw [invE, if_pos hz.out, hgs'.out]; rfl, by rw [invL, if_pos hz.out, hgs'.out]; exact hownq.mono hz8, hb1.trans (hbelq.mono hz8)⟩
end Go.Proofs.YtjgafpkpoppcbaaGreatDoor
end
section
namespace Go.Proofs.YtjgafpkpoppcbaaGreatDoor
open Go.RowKit
open Mx
def el (l : List ByteArray) : Mx.M := fun i j => F.mk (bt (l.getD i ⟨#[]⟩) j) (bt_lt _ _)
theorem el_v (l : List ByteArray) (i j : Nat) : (el l i j).v = bt (l.getD i ⟨#[]⟩) j := rfl
theorem bt_list (s : ByteArray) (j : Nat) : bt s j = (s.data.toList.getD j 0).toNat := by simp [bt, List.getD_eq_getElem?_getD]
theorem bt_line (l : List UInt8) (j : Nat) : bt (lineOf l) j = (l.getD j 0).toNat := by simp [bt, lineOf, List.getD_eq_getElem?_getD]
theorem bt_mulAdd (y x : ByteArray) (c : Nat) {j : Nat} (h : j < y.size) (hx : j < x.size) : bt (mulAdd y c x) j = bt y j ^^^ Gf.gm c (bt x j) := by
  have hl : j < (Gf.mix y.data.toList c x.data.toList).length := by rw [Gf.mix_length]; simpa using h
  rw [mulAdd, bt_line, List.getD_eq_getElem?_getD, List.getElem?_eq_getElem hl]
  show ((Gf.mix y.data.toList c x.data.toList)[j]).toNat = _
  rw [Gf.mix_get, Gf.mixAt_toNat, if_pos (by simpa using hx), ← bt_list, ← bt_list]
theorem bt_zrow (n j : Nat) : bt (zrow n) j = 0 := by
  rw [bt_list, zrow]
  simp only [List.getD_eq_getElem?_getD, List.getElem?_replicate]
  split <;> rfl
theorem bt_append (a b : ByteArray) (j : Nat) : bt (a ++ b) j = if j < a.size then bt a j else bt b (j - a.size) := by
  simp only [bt, ByteArray.data_append, Array.getElem?_append]
  by_cases h : j < a.size
  · rw [if_pos h, if_pos (by simpa using h)]
  · rw [if_neg h, if_neg (by simpa using h)]; rfl
theorem bt_extract (s : ByteArray) {n j : Nat} (h : n + j < s.size) : bt (s.extract n s.size) j = bt s (n + j) := by
  simp only [bt, ByteArray.data_extract, Array.getElem?_extract]
  rw [if_pos (by simp; omega)]
theorem text_ext {s t : ByteArray} (h : s.size = t.size) (hb : ∀ j, j < s.size → bt s j = bt t j) : s = t := by
  apply ByteArray.ext
  apply Array.ext
  · exact h
  · intro i h1 h2
    have := hb i h1
    unfold bt at this
    rw [Array.getElem?_eq_getElem h1, Array.getElem?_eq_getElem h2] at this
    exact UInt8.toNat_inj.1 (by simpa using this)
theorem rows_ext {a b : List ByteArray} {n : Nat} (h : a.length = b.length) (ha : ∀ i, i < a.length → (a.getD i ⟨#[]⟩).size = n) (hb : ∀ i, i < a.length → (b.getD i ⟨#[]⟩).size = n) (he : ∀ i j, i < a.length → j < n → el a i j = el b i j) : a = b := by
  apply List.ext_getElem h
  intro i h1 h2
  have e1 : a[i] = a.getD i ⟨#[]⟩ := by rw [List.getD_eq_getElem?_getD, List.getElem?_eq_getElem h1]; rfl
  have e2 : b[i] = b.getD i ⟨#[]⟩ := by rw [List.getD_eq_getElem?_getD, List.getElem?_eq_getElem h2]; rfl
  rw [e1, e2]
  refine text_ext (by rw [ha i h1, hb i h1]) fun j hj => ?_
  rw [ha i h1] at hj
  exact congrArg F.v (he i j h1 hj)
structure Rect (rows : List ByteArray) (m n : Nat) : Prop where
  l : rows.length = m
  s : ∀ i, i < m → (rows.getD i ⟨#[]⟩).size = n
theorem Rect.ext {a b : List ByteArray} {m n : Nat} (ha : Rect a m n) (hb : Rect b m n) (h : ∀ i j, i < m → j < n → el a i j = el b i j) : a = b := by
  have e := ha.l
  subst e
  exact rows_ext (hb.l.symm) ha.s hb.s h
theorem Rect.mR {l : List ByteArray} {m n : Nat} (h : Rect l m n) (h1 : 1 ≤ m) (h2 : m ≤ 16) (h3 : 1 ≤ n) (h4 : n ≤ 4096) : mR l = true := by
  have e := h.l
  unfold Go.Proofs.YtjgafpkpoppcbaaGreatDoor.mR
  rw [Bool.and_eq_true, decide_eq_true_eq, List.all_eq_true, h.s 0 (by omega)]
  refine ⟨by omega, fun r hr => ?_⟩
  obtain ⟨i, hi, rfl⟩ := List.getElem_of_mem hr
  have := h.s i (by omega)
  rw [List.getD_eq_getElem?_getD, List.getElem?_eq_getElem hi] at this
  simpa using this
theorem Rect.of {l : List ByteArray} (h : Go.Proofs.YtjgafpkpoppcbaaGreatDoor.mR l = true) : Rect l l.length (l.getD 0 ⟨#[]⟩).size := ⟨rfl, (mR_facts h).2.2.2.2⟩
theorem comb_bt (f : ByteArray) (b : List ByteArray) {n j : Nat} (hb : ∀ i, i < b.length → (b.getD i ⟨#[]⟩).size = n) (h0 : 0 < b.length) (hj : j < n) :
    ∀ k, k ≤ b.length → F.mk (bt (comb f b k) j) (bt_lt _ _) = S k fun s => F.mk (bt f s) (bt_lt _ _) * el b s j
  | 0, _ => by
    apply F.ext
    show bt (zrow _) j = 0
    exact bt_zrow _ _
  | k + 1, hk => by
    rw [S_succ, ← comb_bt f b hb h0 hj k (by omega)]
    apply F.ext
    show bt (mulAdd (comb f b k) (f.data[k]?.getD 0).toNat (b.getD k ⟨#[]⟩)) j = bt (comb f b k) j ^^^ Gf.gm (bt f k) (bt (b.getD k ⟨#[]⟩) j)
    rw [bt_mulAdd _ _ _ (by rw [comb_size, hb 0 h0]; exact hj) (by rw [hb k (by omega)]; exact hj)]
    rfl
theorem mulOk_of {a b : List ByteArray} {m p n : Nat} (ha : Rect a m p) (hb : Rect b p n) (h1 : 1 ≤ m) (h2 : m ≤ 16) (h3 : 1 ≤ p) (h4 : p ≤ 16) (h5 : 1 ≤ n) (h6 : n ≤ 4096) : mulOk a b = true := by
  unfold mulOk
  rw [ha.mR h1 h2 h3 (by omega), hb.mR h3 h4 h5 h6, ha.s 0 (by omega), hb.l]
  simp
theorem mulL_of {a b : List ByteArray} (h : mulOk a b = true) : mulL a b = a.map (fun f => comb f b b.length) := if_pos h
theorem mulL_rect {a b : List ByteArray} {m p n : Nat} (ha : Rect a m p) (hb : Rect b p n) (h3 : 1 ≤ p) (h : mulOk a b = true) : Rect (mulL a b) m n := by
  rw [mulL_of h]
  refine ⟨by rw [List.length_map, ha.l], fun i hi => ?_⟩
  have hi' : i < a.length := by rw [ha.l]; exact hi
  rw [List.getD_eq_getElem?_getD, List.getElem?_map, List.getElem?_eq_getElem hi']
  show (comb _ b b.length).size = n
  rw [comb_size]; exact hb.s 0 (by omega)
theorem mulL_el {a b : List ByteArray} {m p n : Nat} (ha : Rect a m p) (hb : Rect b p n) (h3 : 1 ≤ p) (h : mulOk a b = true) {i j : Nat} (hi : i < m) (hj : j < n) : el (mulL a b) i j = mul p (el a) (el b) i j := by
  have hi' : i < a.length := by rw [ha.l]; exact hi
  have e : (mulL a b).getD i ⟨#[]⟩ = comb (a.getD i ⟨#[]⟩) b b.length := by
    rw [mulL_of h, List.getD_eq_getElem?_getD, List.getElem?_map, List.getElem?_eq_getElem hi', List.getD_eq_getElem?_getD, List.getElem?_eq_getElem hi']; rfl
  have hp := hb.l
  subst hp
  refine Eq.trans ?_ (comb_bt (a.getD i ⟨#[]⟩) b hb.s (by omega) hj b.length (Nat.le_refl _))
  apply F.ext
  rw [el_v, e, v_mk]
theorem mkM_rect (f : Nat → Nat → UInt8) (m n : Nat) : Rect (mkM f m n) m n := ⟨mkM_length f m n, fun i hi => mkM_size f hi⟩
theorem mkM_el (f : Nat → Nat → UInt8) {m n i j : Nat} (hi : i < m) (hj : j < n) : (el (mkM f m n) i j).v = (f i j).toNat := by
  rw [el_v, mkM_get f hi, bt_line, List.getD_eq_getElem?_getD, List.getElem?_map, List.getElem?_range hj]; rfl
theorem id_el {n i j : Nat} (hi : i < n) (hj : j < n) : el (mkM idEl n n) i j = one1 i j := by
  apply F.ext
  rw [mkM_el idEl hi hj, idEl, one1]
  split <;> rfl
theorem redL_rect {l : List ByteArray} {m n c : Nat} (h : Rect l m n) (hc : c < m) : Rect (redL l c) m n := by
  have e := h.l
  subst e
  exact ⟨redL_length l c, fun i hi => redL_size l hc hi h.s⟩
theorem swapL_rect {l : List ByteArray} {m n a b : Nat} (h : Rect l m n) (ha : a < m) (hb : b < m) : Rect (swapL l a b) m n := by
  have e := h.l
  subst e
  exact ⟨swapL_length l a b, fun i hi => by rw [swapL_get l ha hb]; exact h.s _ (swp_lt ha hb hi)⟩
theorem swapL_el {l : List ByteArray} {m n a b : Nat} (h : Rect l m n) (ha : a < m) (hb : b < m) (i j : Nat) : el (swapL l a b) i j = el l (swp a b i) j := by
  have e := h.l
  subst e
  apply F.ext
  rw [el_v, swapL_get l ha hb, el_v]
theorem ownRow_bt {l : List ByteArray} {m n c j : Nat} (h : Rect l m n) (hc : c < m) (hj : j < n) : bt (ownRow l c) j = ((el l c c).inv * el l c j).v := by
  rw [ownRow, bt_mulAdd _ _ _ (by rw [zrow_size, h.s c hc]; exact hj) (by rw [h.s c hc]; exact hj), bt_zrow, Nat.zero_xor]; rfl
theorem redL_el_own {l : List ByteArray} {m n c j : Nat} (h : Rect l m n) (hc : c < m) (hj : j < n) : el (redL l c) c j = (el l c c).inv * el l c j := by
  apply F.ext
  have e := h.l
  rw [el_v, redL_get l (by omega), if_pos rfl, ownRow_bt h hc hj]
theorem redL_el_other {l : List ByteArray} {m n c i j : Nat} (h : Rect l m n) (hc : c < m) (hi : i < m) (hj : j < n) (hne : i ≠ c) : el (redL l c) i j = el l i j + el l i c * ((el l c c).inv * el l c j) := by
  apply F.ext
  have e := h.l
  rw [el_v, redL_get l (by omega), if_neg hne, redRow, bt_mulAdd _ _ _ (by rw [h.s i hi]; exact hj) (by rw [ownRow, mulAdd_size, zrow_size, h.s c hc]; exact hj), ownRow_bt h hc hj]; rfl
theorem gj_some {n : Nat} {A : Mx.M} : ∀ (f c : Nat) (l l' : List ByteArray) (R : Mx.M), f + c = n → Rect l n (n + n) → Inv n A R (el l) → (∀ i j, i < n → j < c → el l i j = one1 i j) → gj f c l = some l' →
    Rect l' n (n + n) ∧ (∃ R, Inv n A R (el l')) ∧ ∀ i j, i < n → j < n → el l' i j = one1 i j
  | 0, c, l, l', R, hf, hr, hI, h1, hg => by
    rw [gj, Option.some.injEq] at hg
    subst hg
    exact ⟨hr, ⟨R, hI⟩, fun i j hi hj => h1 i j hi (by omega)⟩
  | f + 1, c, l, l', R, hf, hr, hI, h1, hg => by
    have hc : c < n := by omega
    rw [gj, hr.l] at hg
    obtain ⟨q1, q2, q3, q4⟩ := pvt_spec l c (n - c) c
    obtain ⟨p, hp⟩ : ∃ p, pvt l c (n - c) c = p := ⟨_, rfl⟩
    rw [hp] at hg q1 q2 q3 q4
    by_cases he : p = n
    · rw [if_pos he] at hg; cases hg
    · rw [if_neg he] at hg
      have hpn : p < n := by omega
      obtain ⟨R1, hI1⟩ := hI.swap hc hpn (Y := el (swapL l c p)) (fun i j _ _ => swapL_el hr hc hpn i j)
      have hr1 := swapL_rect hr hc hpn
      have hx : el (swapL l c p) c c ≠ 0 := by
        rw [swapL_el hr hc hpn, show swp c p c = p from if_pos rfl]
        intro h0
        exact q3 (by omega) (congrArg F.v h0)
      obtain ⟨R2, hI2⟩ := hI1.clear hc hx (Y := el (redL (swapL l c p) c)) (fun j hj => redL_el_own hr1 hc hj) (fun i j hi hj hne => redL_el_other hr1 hc hi hj hne)
      refine gj_some f (c + 1) (redL (swapL l c p) c) l' R2 (by omega) (redL_rect hr1 hc) hI2 (fun i j hi hj => ?_) hg
      have hcj : ∀ j, j < c → el (swapL l c p) c j = 0 := fun j hj => by
        rw [swapL_el hr hc hpn, show swp c p c = p from if_pos rfl, h1 p j hpn hj, one_other (by omega)]
      by_cases hic : i = c
      · subst hic
        rw [redL_el_own hr1 hc (by omega)]
        by_cases hji : j = i
        · subst hji; rw [inv_mul hx, one_self]
        · rw [hcj j (by omega), mul_zero, one_other (Ne.symm hji)]
      · rw [redL_el_other hr1 hc hi (by omega) hic]
        by_cases hji : j = c
        · subst hji; rw [inv_mul hx, mul_one, add_self, one_other hic]
        · rw [hcj j (by omega), mul_zero, mul_zero, add_zero, swapL_el hr hc hpn]
          by_cases hip : i = p
          · subst hip
            rw [show swp c i i = c by unfold swp; rw [if_neg hic, if_pos rfl], h1 c j hc (by omega), one_other (by omega), one_other (by omega)]
          · rw [show swp c p i = i by unfold swp; rw [if_neg hic, if_neg hip], h1 i j hi (by omega)]
theorem gj_none {n : Nat} {A : Mx.M} : ∀ (f c : Nat) (l : List ByteArray) (R : Mx.M), f + c = n → Rect l n (n + n) → Inv n A R (el l) → (∀ i j, i < n → j < c → el l i j = one1 i j) → gj f c l = none →
    ∃ (v : Nat → F) (c : Nat), c < n ∧ v c = 1 ∧ ∀ i, i < n → S n (fun k => A i k * v k) = 0
  | 0, c, l, R, hf, hr, hI, h1, hg => by rw [gj] at hg; cases hg
  | f + 1, c, l, R, hf, hr, hI, h1, hg => by
    have hc : c < n := by omega
    rw [gj, hr.l] at hg
    obtain ⟨q1, q2, q3, q4⟩ := pvt_spec l c (n - c) c
    obtain ⟨p, hp⟩ : ∃ p, pvt l c (n - c) c = p := ⟨_, rfl⟩
    rw [hp] at hg q1 q2 q3 q4
    by_cases he : p = n
    · obtain ⟨v, hv1, hv2⟩ := hI.stuck hc h1 (fun i hi1 hi2 => F.ext (q4 i hi1 (by omega)))
      exact ⟨v, c, hc, hv1, hv2⟩
    · rw [if_neg he] at hg
      have hpn : p < n := by omega
      obtain ⟨R1, hI1⟩ := hI.swap hc hpn (Y := el (swapL l c p)) (fun i j _ _ => swapL_el hr hc hpn i j)
      have hr1 := swapL_rect hr hc hpn
      have hx : el (swapL l c p) c c ≠ 0 := by
        rw [swapL_el hr hc hpn, show swp c p c = p from if_pos rfl]
        intro h0
        exact q3 (by omega) (congrArg F.v h0)
      obtain ⟨R2, hI2⟩ := hI1.clear hc hx (Y := el (redL (swapL l c p) c)) (fun j hj => redL_el_own hr1 hc hj) (fun i j hi hj hne => redL_el_other hr1 hc hi hj hne)
      refine gj_none f (c + 1) (redL (swapL l c p) c) R2 (by omega) (redL_rect hr1 hc) hI2 (fun i j hi hj => ?_) hg
      have hcj : ∀ j, j < c → el (swapL l c p) c j = 0 := fun j hj => by
        rw [swapL_el hr hc hpn, show swp c p c = p from if_pos rfl, h1 p j hpn hj, one_other (by omega)]
      by_cases hic : i = c
      · subst hic
        rw [redL_el_own hr1 hc (by omega)]
        by_cases hji : j = i
        · subst hji; rw [inv_mul hx, one_self]
        · rw [hcj j (by omega), mul_zero, one_other (Ne.symm hji)]
      · rw [redL_el_other hr1 hc hi (by omega) hic]
        by_cases hji : j = c
        · subst hji; rw [inv_mul hx, mul_one, add_self, one_other hic]
        · rw [hcj j (by omega), mul_zero, mul_zero, add_zero, swapL_el hr hc hpn]
          by_cases hip : i = p
          · subst hip
            rw [show swp c i i = c by unfold swp; rw [if_neg hic, if_pos rfl], h1 c j hc (by omega), one_other (by omega), one_other (by omega)]
          · rw [show swp c p i = i by unfold swp; rw [if_neg hic, if_neg hip], h1 i j hi (by omega)]
theorem stL_rect {a : List ByteArray} {n : Nat} (h : Rect a n n) : Rect (stL a) n (n + n) := by
  have e := h.l
  subst e
  refine ⟨by simp [stL], fun i hi => ?_⟩
  rw [stL, List.getD_eq_getElem?_getD, List.getElem?_map, List.getElem?_range hi]
  show (a.getD i ⟨#[]⟩ ++ (mkM idEl a.length a.length).getD i ⟨#[]⟩).size = _
  rw [app_size, h.s i hi, mkM_size _ hi]
theorem stL_bt {a : List ByteArray} {n i : Nat} (h : Rect a n n) (hi : i < n) (j : Nat) : bt ((stL a).getD i ⟨#[]⟩) j = if j < n then bt (a.getD i ⟨#[]⟩) j else bt ((mkM idEl n n).getD i ⟨#[]⟩) (j - n) := by
  have e := h.l
  subst e
  rw [stL, List.getD_eq_getElem?_getD, List.getElem?_map, List.getElem?_range hi]
  show bt (a.getD i ⟨#[]⟩ ++ (mkM idEl a.length a.length).getD i ⟨#[]⟩) j = _
  rw [bt_append, h.s i hi]
theorem stL_inv {a : List ByteArray} {n : Nat} (h : Rect a n n) : Inv n (el a) one1 (el (stL a)) := by
  refine Inv.start (fun i j hi hj => F.ext ?_) (fun i j hi hj => F.ext ?_)
  · rw [el_v, stL_bt h hi, if_pos hj]; rfl
  · rw [el_v, stL_bt h hi, if_neg (by omega), show n + j - n = j by omega, ← el_v (mkM idEl n n), id_el hi hj]
theorem halfL_rect {l : List ByteArray} {n : Nat} (h : Rect l n (n + n)) : Rect (halfL n l) n n := by
  have e := h.l
  refine ⟨by simp [halfL, e], fun i hi => ?_⟩
  have hs := h.s i hi
  rw [List.getD_eq_getElem?_getD, List.getElem?_eq_getElem (by omega)] at hs
  rw [halfL, List.getD_eq_getElem?_getD, List.getElem?_map, List.getElem?_eq_getElem (by omega)]
  show (ByteArray.extract _ _ _).size = n
  rw [ByteArray.size_extract]
  simp only [Option.getD_some] at hs
  omega
theorem halfL_el {l : List ByteArray} {n i j : Nat} (h : Rect l n (n + n)) (hi : i < n) (hj : j < n) : el (halfL n l) i j = el l i (n + j) := by
  have e := h.l
  have hs := h.s i hi
  apply F.ext
  rw [el_v, el_v]
  rw [List.getD_eq_getElem?_getD, List.getElem?_eq_getElem (by omega), Option.getD_some] at hs
  rw [halfL, List.getD_eq_getElem?_getD, List.getElem?_map, List.getElem?_eq_getElem (by omega), List.getD_eq_getElem?_getD, List.getElem?_eq_getElem (by omega)]
  exact bt_extract _ (by omega)
theorem sq_of {a : List ByteArray} {n : Nat} (h : Rect a n n) (h1 : 1 ≤ n) (h2 : n ≤ 16) : sqB a = true := by
  unfold sqB
  rw [h.mR h1 h2 h1 (by omega), h.s 0 (by omega), h.l]; simp
theorem inv_cases {a : List ByteArray} {n : Nat} (h : Rect a n n) (h1 : 1 ≤ n) (h2 : n ≤ 16) :
    (invE a = 0 ∧ Rect (invL a) n n ∧ (∀ i j, i < n → j < n → mul n (el (invL a)) (el a) i j = one1 i j) ∧ ∀ i j, i < n → j < n → mul n (el a) (el (invL a)) i j = one1 i j) ∨
    (invE a = 21 ∧ invL a = [] ∧ ∃ (v : Nat → F) (c : Nat), c < n ∧ v c = 1 ∧ ∀ i, i < n → S n (fun k => el a i k * v k) = 0) := by
  have hs := sq_of h h1 h2
  have e := h.l
  cases hg : gj a.length 0 (stL a) with
  | some l =>
    left
    have hL : invL a = halfL n l := by rw [invL, if_pos hs, hg, e]
    rw [hL]
    rw [e] at hg
    obtain ⟨g1, ⟨R, g2⟩, g3⟩ := gj_some n 0 (stL a) l one1 (by omega) (stL_rect h) (stL_inv h) (fun i j _ hj => by omega) hg
    obtain ⟨d1, d2⟩ := g2.done g3
    refine ⟨by rw [invE, if_pos hs, e, hg], halfL_rect g1, fun i j hi hj => ?_, fun i j hi hj => ?_⟩
    · rw [← d1 i j hi hj]; exact mul_congr (fun k hk => halfL_el g1 hi hk) (fun _ _ => rfl)
    · rw [← d2 i j hi hj]; exact mul_congr (fun _ _ => rfl) (fun k hk => halfL_el g1 hk hj)
  | none =>
    right
    refine ⟨by rw [invE, if_pos hs, hg], by rw [invL, if_pos hs, hg], ?_⟩
    rw [e] at hg
    exact gj_none n 0 (stL a) one1 (by omega) (stL_rect h) (stL_inv h) (fun i j _ hj => by omega) hg
end Go.Proofs.YtjgafpkpoppcbaaGreatDoor
end
section
namespace Go.Proofs.YtjgafpkpoppcbaaGreatDoor
open Go.RowKit
def pk (c n : Int) : Int := (if c < 0 then -(c + 1) else c) % n
theorem pk_rng (c n : Int) (h : 1 ≤ n) : 0 ≤ pk c n ∧ pk c n < n := by
  unfold pk; exact ⟨Int.emod_nonneg _ (by omega), Int.emod_lt_of_pos _ (by omega)⟩
def Says (w : World) (v : Value) (e : Ending) (w' : World) : Prop := e = .returned v ∧ Below w.heap.size w w'
end Go.Proofs.YtjgafpkpoppcbaaGreatDoor
end
section
namespace Go.Proofs.YtjgafpkpoppcbaaGreatDoor
open Go.RowKit
def firstL (f : Nat → ByteArray) (k : Nat) : List ByteArray := (List.range k).map f
theorem firstL_succ (f : Nat → ByteArray) (k : Nat) : tx (firstL f (k + 1)) = tx (firstL f k) ++ [.string (f k)] := by simp [firstL, tx, List.range_succ]
theorem firstL_length (f : Nat → ByteArray) (k : Nat) : (firstL f k).length = k := by simp [firstL]
end Go.Proofs.YtjgafpkpoppcbaaGreatDoor
end
section
namespace Go.Proofs.YtjgafpkpoppcbaaGreatDoor
open Go.RowKit
theorem Reads.lit (w : World) (E : TypeId) (xs : List Value) (cap : Nat) : Reads (w.alloc (.cells xs.toArray E)) (.slice (some ⟨w.heap.size, 0, none⟩) xs.length cap) xs := by
  refine .inr ⟨w.heap.size, 0, cap, rfl, by simp, fun i hi => ?_⟩
  rw [World.cell?_alloc_mark]
  simp [List.getD_eq_getElem?_getD, hi]
theorem Fits.small {l : List ByteArray} (h1 : l.length ≤ 1000) (h2 : ∀ i, i < l.length → (l.getD i ⟨#[]⟩).size ≤ 100000) : Fits l := ⟨by omega, fun i hi => by have := h2 i hi; omega⟩
theorem Rect.fits {l : List ByteArray} {m n : Nat} (h : Rect l m n) (h1 : m ≤ 1000) (h2 : n ≤ 100000) : Fits l := Fits.small (by rw [h.l]; exact h1) (fun i hi => by rw [h.s i (by rw [← h.l]; exact hi)]; exact h2)
theorem Fits.nil : Fits [] := Fits.small (by decide) (fun i hi => by simp at hi)
end Go.Proofs.YtjgafpkpoppcbaaGreatDoor
end
section
namespace Go.Proofs.YtjgafpkpoppcbaaGreatDoor
open Go.RowKit
theorem idL_nat {n : Nat} (h1 : 1 ≤ n) (h2 : n ≤ 16) : idL (n : Int) = mkM idEl n n ∧ idE (n : Int) = 0 := by
  rw [idL, idE, if_pos (by simp [fitsB]; omega), if_pos (by simp [fitsB]; omega), show ((n : Int)).toNat = n by omega]
  exact ⟨rfl, rfl⟩
end Go.Proofs.YtjgafpkpoppcbaaGreatDoor
end
section
namespace Go.Proofs.YtjgafpkpoppcbaaGreatDoor
open Go.RowKit
theorem S_pick {n i : Nat} (h : i < n) (f : Nat → Mx.F) : Mx.S n (fun k => Mx.one1 i k * f k) = f i := by
  rw [Mx.S_one h (fun k _ hk => by rw [Mx.one_other (Ne.symm hk), Mx.zero_mul]), Mx.one_self, Mx.one_mul]
end Go.Proofs.YtjgafpkpoppcbaaGreatDoor
end
section
namespace Go.Proofs.YtjgafpkpoppcbaaGreatDoor
open Go.RowKit
theorem Tryz.infoI : (Tryz.prog.info? 3).map (fun i => (i.zero, i.size, i.bytes)) = some (some (.int .i64 0), 1, 8) := by kernel_rfl
def iv (l : List Int) : List Value := l.map (.int .i64)
def nv (l : List Nat) : List Value := l.map fun (x : Nat) => Value.int .i64 ((x : Nat) : Int)
theorem nv_getD (l : List Nat) {i : Nat} (h : i < l.length) : (nv l).getD i .nilFunc = .int .i64 ((l.getD i 0 : Nat) : Int) := by
  simp [nv, List.getD_eq_getElem?_getD, h]
theorem nv_length (l : List Nat) : (nv l).length = l.length := by simp [nv]
theorem nv_snoc (l : List Nat) (x : Nat) : nv (l ++ [x]) = nv l ++ [.int .i64 (x : Int)] := by simp [nv]
def capOk : Value → Prop
  | .slice _ l c => l ≤ c
  | _ => True
theorem Reads.to_run {P : Program} {T E : TypeId} {i : TypeInfo} (hT : P.underlying T = some (.slice E)) (hi : P.info? E = some i) (hs : i.size = 1) {w : World} {v : Value} {xs : List Value} (h : Reads w v xs) (hc : capOk v) {m : Nat} (hm : m ≤ xs.length) :
    ∃ v2, (∀ W, (Instr.slice T v none (some (.int .i64 (m : Int))) none).run P W = .ok v2 W) ∧ Reads w v2 (xs.take m) := by
  rcases h with ⟨⟨a0, c0, rfl⟩, rfl⟩ | ⟨b, off, cap, rfl, hb, hx⟩
  · have : m = 0 := by simpa using hm
    subst this
    refine ⟨.slice a0 0 c0, fun W => ?_, .inl ⟨⟨_, _, rfl⟩, rfl⟩⟩
    have hz : (sizeOf E).run P W = .ok 1 W := by simp [sizeOf, typeInfo, hi, hs]
    cases a0 with
    | none => simp [Instr.slice, run_underlying hT, Instr.sliceBounds, Instr.sliceBound, asIntOf, hz]
    | some a =>
      simp [Instr.slice, run_underlying hT, Instr.sliceBounds, Instr.sliceBound, asIntOf, hz]
      intro _
      cases a
      unfold Addr.add
      simp
  · have hc' : xs.length ≤ cap := hc
    refine ⟨.slice (some ⟨b, off, none⟩) m cap, fun W => ?_, .inr ⟨b, off, cap, by simp [Nat.min_eq_left hm], hb, fun j hj => ?_⟩⟩
    · have e1 : ((m : Int) ≤ (cap : Int)) := by omega
      have e2 : m ≤ cap := by omega
      simp [Instr.slice, run_underlying hT, Instr.sliceBounds, Instr.sliceBound, asIntOf, sizeOf, typeInfo, hi, hs, e2, Addr.add]
    · rw [List.length_take, Nat.min_eq_left hm] at hj
      rw [hx j (by omega), List.getD_eq_getElem?_getD, List.getD_eq_getElem?_getD, List.getElem?_take, if_pos hj]
end Go.Proofs.YtjgafpkpoppcbaaGreatDoor
end
section
namespace Go.Proofs.YtjgafpkpoppcbaaGreatDoor
open Go.RowKit
def toF (n : Nat) : Mx.F := if h : n < 256 then Mx.F.mk n h else 0
theorem toF_v {n : Nat} (h : n < 256) : (toF n).v = n := by rw [toF, dif_pos h, Mx.v_mk]
theorem toF_add {a b : Nat} (ha : a < 256) (hb : b < 256) : toF a + toF b = toF (a ^^^ b) := by
  apply Mx.F.ext
  rw [Mx.v_add, toF_v ha, toF_v hb, toF_v (Gf.xor_lt ha hb)]
theorem toF_ne {a b : Nat} (ha : a < 256) (hb : b < 256) (h : a ≠ b) : toF a ≠ toF b := fun e => h (by rw [← toF_v ha, ← toF_v hb, e])
theorem getD_lt {l : List Nat} {n i : Nat} (h : ∀ x ∈ l, x < n) (hi : i < l.length) : l.getD i 0 < n := by
  rw [List.getD_eq_getElem?_getD, List.getElem?_eq_getElem hi]; exact h _ (List.getElem_mem hi)
theorem getD_ne {l : List Nat} {i j : Nat} (h : l.Nodup) (hi : i < l.length) (hj : j < l.length) (hne : i ≠ j) : l.getD i 0 ≠ l.getD j 0 := by
  rw [List.getD_eq_getElem?_getD, List.getD_eq_getElem?_getD, List.getElem?_eq_getElem hi, List.getElem?_eq_getElem hj]
  intro e
  exact hne ((List.getElem_inj h).1 e)
theorem mnodup_le : ∀ (n : Nat) (l : List Nat), l.Nodup → (∀ x ∈ l, x < n) → l.length ≤ n
  | 0, l, _, hb => by
    cases l with
    | nil => simp
    | cons a t => have := hb a (by simp); omega
  | n + 1, l, h, hb => by
    by_cases hm : n ∈ l
    · have h1 := mnodup_le n (l.erase n) (h.erase n) (fun x hx => by
        have hx1 := List.mem_of_mem_erase hx
        have := hb x hx1
        have hne : x ≠ n := by
          intro e; subst e
          exact (List.Nodup.not_mem_erase h) hx
        omega)
      rw [List.length_erase_of_mem hm] at h1
      have : 0 < l.length := List.length_pos_of_mem hm
      omega
    · have := mnodup_le n l h (fun x hx => by
        have := hb x hx
        have hne : x ≠ n := by intro e; subst e; exact hm hx
        omega)
      omega
end Go.Proofs.YtjgafpkpoppcbaaGreatDoor
end
section
namespace Go.Proofs.YtjgafpkpoppcbaaGreatDoor
open Go.RowKit
set_option maxRecDepth 100000 in
set_option maxHeartbeats 2000000 in
theorem mrright_any (v : Value) (l : List ByteArray) (w : World) (h : Reads w v (tx l)) (hF : Fits l) :
    Calls Tryz.prog 130 #[v] w (Says w (.bool (mR l))) := by
  have hn := hF.n
  by_cases h1 : 1 ≤ l.length
  · by_cases h2 : l.length ≤ 16
    · rcases h.srow with ⟨_, rfl⟩ | ⟨b, off, cap, rfl, hS⟩
      · simp at h1
      have hc0 := hS.cell 0 (by omega)
      have hm0 := hF.m 0 (by omega)
      rw [Nat.add_zero] at hc0
      obtain ⟨s0, hs0⟩ : ∃ r, l.getD 0 ⟨#[]⟩ = r := ⟨_, rfl⟩
      have hs0' := Lib.hid hs0
      rw [hs0] at hc0 hm0
      have t1 : decide ((l.length : Int) < 1) = false := by simp; omega
      have t2 : decide (16 < (l.length : Int)) = false := by simp; omega
      by_cases h3 : 1 ≤ s0.size
      · have t3 : decide ((s0.size : Int) < 1) = false := by simp; omega
        by_cases h4 : s0.size ≤ 4096
        · have t4 : decide (4096 < (s0.size : Int)) = false := by simp; omega
          clear hs0
          go_enter Tryz.func130, Tryz.ntmps130
          go_wp2
          go_loopw [3] (fun i wr => ∃ k : Nat, k ≤ l.length ∧ i = .int .i64 (k : Int) ∧ Below w.heap.size w wr ∧ Hid (∀ j, j < k → (l.getD j ⟨#[]⟩).size = s0.size)) (fun i _ => l.length - (RowKit.intOf i).toNat)
          case atStart => exact ⟨0, by omega, rfl, Below.refl _ _, Lib.hid (fun j hj => by omega)⟩
          case round =>
            obtain ⟨k, hk, rfl, hbel, hj⟩ := hrel
            by_cases hlt : k < l.length
            · have hc := (hS.below hbel).cell k hlt
              have hc0' := (hS.below hbel).cell 0 (by omega)
              rw [Nat.add_zero, hs0'.out] at hc0'
              have hmk := hF.m k hlt
              have b1 : (k : Int) < (l.length : Int) := by omega
              by_cases he : (l.getD k ⟨#[]⟩).size = s0.size
              · have hj' : Hid (∀ j, j < k + 1 → (l.getD j ⟨#[]⟩).size = s0.size) := Lib.hid (fun j hjk => by
                  by_cases e : j = k
                  · subst e; exact he
                  · exact hj.out j (by omega))
                have e3 : ((((l.getD k ⟨#[]⟩).size : Nat) : Int) != ((s0.size : Nat) : Int)) = false := by rw [he]; exact bne_self_eq_false _
                generalize l.getD k ⟨#[]⟩ = rk at *
                clear he hc0
                go_wp2
                go_quiet (fail)
                go_wp2
                go_roundw
                case rel => exact ⟨k + 1, by omega, by go_num, belowN hbel _, hj'⟩
                case measure => simp [RowKit.intOf]; omega
              · have hz : Hid (mR l = false) := Lib.hid (by
                  unfold mR; rw [Bool.and_eq_false_iff]; right
                  rw [List.all_eq_false]
                  refine ⟨l.getD k ⟨#[]⟩, ?_, ?_⟩
                  · rw [List.getD_eq_getElem?_getD, List.getElem?_eq_getElem hlt]; exact List.getElem_mem hlt
                  · rw [hs0'.out]; simpa using he)
                have e3 : ((((l.getD k ⟨#[]⟩).size : Nat) : Int) != ((s0.size : Nat) : Int)) = true := by rw [bne_iff_ne]; omega
                generalize l.getD k ⟨#[]⟩ = rk at *
                clear he hc0
                go_wp2
                go_quiet (fail)
                go_wp2
                go_ret
                exact ⟨by rw [hz.out]; rfl, belowN hbel _⟩
            · have e : k = l.length := by omega
              subst e
              have hz : Hid (mR l = true) := Lib.hid (by
                have ha : l.all (fun r => r.size == (l.getD 0 ⟨#[]⟩).size) = true := by
                  rw [List.all_eq_true]; intro r hr
                  obtain ⟨j, hj1, rfl⟩ := List.getElem_of_mem hr
                  have := hj.out j hj1
                  rw [List.getD_eq_getElem?_getD, List.getElem?_eq_getElem hj1] at this
                  rw [hs0'.out]; simpa using this
                unfold mR; rw [ha, Bool.and_true, hs0'.out]; simp; omega)
              go_wp2
              go_ret
              exact ⟨by rw [hz.out]; rfl, hbel⟩
        · have t4 : decide (4096 < (s0.size : Int)) = true := by simp; omega
          have hz : Hid (mR l = false) := Lib.hid (by unfold mR; rw [hs0, decide_eq_false (by omega)]; rfl)
          clear hs0
          go_enter Tryz.func130, Tryz.ntmps130
          go_wp2
          go_ret
          exact ⟨by rw [hz.out]; rfl, Below.refl _ _⟩
      · have t3 : decide ((s0.size : Int) < 1) = true := by simp; omega
        have hz : Hid (mR l = false) := Lib.hid (by unfold mR; rw [hs0, decide_eq_false (by omega)]; rfl)
        clear hs0
        go_enter Tryz.func130, Tryz.ntmps130
        go_wp2
        go_ret
        exact ⟨by rw [hz.out]; rfl, Below.refl _ _⟩
    · have hz : Hid (mR l = false) := Lib.hid (by unfold mR; rw [decide_eq_false (by omega)]; rfl)
      have hlen := fun W => h.len_run (P := Tryz.prog) Tryz.underlying39 3 W
      rw [List.length_map] at hlen
      have t1 : decide ((l.length : Int) < 1) = false := by simp; omega
      have t2 : decide (16 < (l.length : Int)) = true := by simp; omega
      go_enter Tryz.func130, Tryz.ntmps130
      go_wp2
      go_ret
      exact ⟨by rw [hz.out]; rfl, Below.refl _ _⟩
  · have hz : Hid (mR l = false) := Lib.hid (by unfold mR; rw [decide_eq_false (by omega)]; rfl)
    have hlen := fun W => h.len_run (P := Tryz.prog) Tryz.underlying39 3 W
    rw [List.length_map] at hlen
    have t1 : decide ((l.length : Int) < 1) = true := by simp; omega
    go_enter Tryz.func130, Tryz.ntmps130
    go_wp2
    go_ret
    exact ⟨by rw [hz.out]; rfl, Below.refl _ _⟩
theorem id_line (n k : Nat) (h : k < n) : (List.replicate n (0 : UInt8)).set k 1 = (List.range n).map (idEl k) := by
  apply List.ext_getElem
  · simp
  · intro j h1 h2
    rw [List.getElem_set]
    simp only [List.getElem_replicate, List.getElem_map, List.getElem_range, idEl]
set_option maxRecDepth 100000 in
set_option maxHeartbeats 2000000 in
theorem ridentity_any (n : Int) (w : World) (h1 : n ≤ 9223372036854775807) :
    Calls Tryz.prog 114 #[.int .i64 n] w (GivesL w (idL n) (idE n)) := by
  by_cases hlo : n < 1
  · have hz : Hid (fitsB n = false) := Lib.hid (by simp [fitsB]; omega)
    have t1 : decide (n < 1) = true := by simpa using hlo
    clear hlo
    go_enter Tryz.func114, Tryz.ntmps114
    go_wp2
    go_ret2
    exact ⟨.slice none 0 0, by rw [idE, hz.out]; rfl, by rw [idL, hz.out]; exact Own.nil _ _ _, Below.refl _ _⟩
  · have t1 : decide (n < 1) = false := by simpa using hlo
    by_cases hhi : 16 < n
    · have hz : Hid (fitsB n = false) := Lib.hid (by simp [fitsB]; omega)
      have t2 : decide (16 < n) = true := by simpa using hhi
      clear hlo hhi
      go_enter Tryz.func114, Tryz.ntmps114
      go_wp2
      go_ret2
      exact ⟨.slice none 0 0, by rw [idE, hz.out]; rfl, by rw [idL, hz.out]; exact Own.nil _ _ _, Below.refl _ _⟩
    · have t2 : decide (16 < n) = false := by simpa using hhi
      have hz : Hid (fitsB n = true) := Lib.hid (by simp [fitsB]; omega)
      obtain ⟨n, rfl⟩ := Int.eq_ofNat_of_zero_le (show 0 ≤ n by omega)
      obtain ⟨i0, hi, hz0, hz1, hz2⟩ := info_parts Tryz.infoS
      obtain ⟨i1, hi1, hy0, hy1, hy2⟩ := info_parts Tryz.info5
      go_enter Tryz.func114, Tryz.ntmps114
      go_wp2
      go_loopw [4, 5, 6] (fun u i _ wr => ∃ k : Nat, k ≤ n ∧ i = .int .i64 (k : Int) ∧ Own wr w.heap.size 9 u (tx (firstL (fun i => lineOf ((List.range n).map (idEl i))) k)) ∧ Below w.heap.size w wr) (fun _ i _ _ => n - (RowKit.intOf i).toNat)
      case atStart => exact ⟨0, by omega, rfl, Own.nil _ _ _, Below.refl _ _⟩
      case round =>
        obtain ⟨k, hk, rfl, hown, hbel⟩ := hrel
        obtain ⟨u, rfl⟩ : ∃ v, v = u4 := ⟨_, rfl⟩
        by_cases hlt : k < n
        · have b1 : (k : Int) < (n : Int) := by omega
          obtain ⟨w2, hmk2, hown2, hbel2⟩ := Own.make_run (P := Tryz.prog) (T := 99) Tryz.underlying99 hi1 hy0 hy1 hy2 rfl wr n (by omega) (by omega)
          have hnx := Lib.hid (firstL_succ (fun i => lineOf ((List.range n).map (idEl i))) k)
          have hfl := firstL_length (fun i => lineOf ((List.range n).map (idEl i))) k
          have hfz := hown2.frozen k
          have hcl := hown2.cell (i := k) (by simpa using hlt)
          have hset := hown2.set k (.int .u8 1)
          have hline : (List.replicate n (Value.int .u8 0)).set k (.int .u8 1) = ((List.range n).map (idEl k)).map byteVal := by
            rw [← id_line n k hlt, List.map_set]; simp [byteVal]
          rw [hline] at hset
          have hst := own_back hset.o
          have hw2 := hown2.lt
          have hown3 := (hown.after hbel2).setOther (a := ⟨wr.heap.size, k, none⟩) (u := .int .u8 1) (by
            intro e
            have := (hown.o.lt _ e).2
            simp at this)
          have hb3 : Below w.heap.size w (w2.setCell ⟨wr.heap.size, k, none⟩ (.int .u8 1)) := (hbel.trans (hbel2.mono hbel.size)).setCell hbel.size _
          obtain ⟨v', w', hap, hown4, hb4⟩ := Own.push (P := Tryz.prog) (T := 39) Tryz.underlying39 hi hz0 hz1 hz2 rfl hown3 (.string (lineOf ((List.range n).map (idEl k)))) rfl hb3.size (by rw [List.length_map, hfl]; omega) (by rw [List.length_map, hfl]; omega)
          rw [show (w2.setCell ⟨wr.heap.size, k, none⟩ (.int .u8 1)).heap.size = w2.heap.size by simp] at hap
          have hline' := Lib.hid hline
          clear hline
          go_wp2_with (at_builtin; refine wpList_append_run hap _ _ rfl rfl rfl rfl rfl ?_)
          go_roundw
          case rel => exact ⟨k + 1, by omega, by go_num, by rw [hnx.out]; exact hown4, hb3.trans hb4⟩
          case measure => simp [RowKit.intOf]; omega
        · have e : k = n := by omega
          subst e
          go_wp2
          go_ret2
          exact ⟨u, by rw [idE, hz.out]; rfl, by rw [idL, hz.out]; exact hown, hbel⟩
set_option maxRecDepth 100000 in
set_option maxHeartbeats 2000000 in
theorem rcauchy_bad (k m : Int) (w : World) (h : fitsB k = false ∨ fitsB m = false) :
    Calls Tryz.prog 91 #[.int .i64 k, .int .i64 m] w (GivesL w (cyL k m) (cyE k m)) := by
  have hz : Hid ((fitsB k && fitsB m) = false) := Lib.hid (by rcases h with h | h <;> simp [h])
  by_cases a1 : k < 1
  · have t1 : decide (k < 1) = true := by simpa using a1
    clear a1 h
    go_enter Tryz.func91, Tryz.ntmps91
    go_wp2
    go_ret2
    exact ⟨.slice none 0 0, by rw [cyE, hz.out]; rfl, by rw [cyL, hz.out]; exact Own.nil _ _ _, Below.refl _ _⟩
  · have t1 : decide (k < 1) = false := by simpa using a1
    by_cases a2 : 16 < k
    · have t2 : decide (16 < k) = true := by simpa using a2
      clear a1 a2 h
      go_enter Tryz.func91, Tryz.ntmps91
      go_wp2
      go_ret2
      exact ⟨.slice none 0 0, by rw [cyE, hz.out]; rfl, by rw [cyL, hz.out]; exact Own.nil _ _ _, Below.refl _ _⟩
    · have t2 : decide (16 < k) = false := by simpa using a2
      by_cases a3 : m < 1
      · have t3 : decide (m < 1) = true := by simpa using a3
        clear a1 a2 a3 h
        go_enter Tryz.func91, Tryz.ntmps91
        go_wp2
        go_ret2
        exact ⟨.slice none 0 0, by rw [cyE, hz.out]; rfl, by rw [cyL, hz.out]; exact Own.nil _ _ _, Below.refl _ _⟩
      · have t3 : decide (m < 1) = false := by simpa using a3
        have a4 : 16 < m := by
          rcases h with h | h
          · simp [fitsB] at h; omega
          · simp [fitsB] at h; omega
        have t4 : decide (16 < m) = true := by simpa using a4
        clear a1 a2 a3 a4 h
        go_enter Tryz.func91, Tryz.ntmps91
        go_wp2
        go_ret2
        exact ⟨.slice none 0 0, by rw [cyE, hz.out]; rfl, by rw [cyL, hz.out]; exact Own.nil _ _ _, Below.refl _ _⟩
set_option maxRecDepth 100000 in
set_option maxHeartbeats 2000000 in
theorem rcauchy_ok (k m : Nat) (w : World) (k1 : 1 ≤ k) (k2 : k ≤ 16) (m1 : 1 ≤ m) (m2 : m ≤ 16) :
    Calls Tryz.prog 91 #[.int .i64 (k : Int), .int .i64 (m : Int)] w (GivesL w (mkM (cyEl m) m k) 0) := by
  obtain ⟨i0, hi, hz0, hz1, hz2⟩ := info_parts Tryz.infoS
  obtain ⟨i1, hi1, hy0, hy1, hy2⟩ := info_parts Tryz.info5
  go_enter Tryz.func91, Tryz.ntmps91
  go_wp2
  go_loopw [6, 7, 8, 9, 10, 11] (fun u i _ _ _ _ wr => ∃ q : Nat, q ≤ m ∧ i = .int .i64 (q : Int) ∧ Own wr w.heap.size 9 u (tx (firstL (fun i => lineOf ((List.range k).map (cyEl m i))) q)) ∧ Below w.heap.size w wr) (fun _ i _ _ _ _ _ => m - (RowKit.intOf i).toNat)
  case atStart => exact ⟨0, by omega, rfl, Own.nil _ _ _, Below.refl _ _⟩
  case round =>
    obtain ⟨q, hq, rfl, hown, hbel⟩ := hrel
    obtain ⟨u, rfl⟩ : ∃ v, v = u6 := ⟨_, rfl⟩
    by_cases hlt : q < m
    · have b1 : (q : Int) < (m : Int) := by omega
      have hnx := Lib.hid (firstL_succ (fun i => lineOf ((List.range k).map (cyEl m i))) q)
      have hfl := firstL_length (fun i => lineOf ((List.range k).map (cyEl m i))) q
      obtain ⟨wo, rfl⟩ : ∃ wo : World, wo = wr := ⟨_, rfl⟩
      go_wp2
      go_loopw [8, 9, 10, 11] (fun b j _ _ wr => ∃ z : Nat, z ≤ k ∧ j = .int .i64 (z : Int) ∧ Own wr wo.heap.size 5 b (((List.range z).map (cyEl m q)).map byteVal) ∧ Below wo.heap.size wo wr) (fun _ j _ _ _ => k - (RowKit.intOf j).toNat)
      case atStart => exact ⟨0, by omega, rfl, Own.nil _ _ _, Below.refl _ _⟩
      case round =>
        obtain ⟨z, hz, rfl, hob, hbz⟩ := hrel
        obtain ⟨b, rfl⟩ : ∃ v, v = u8 := ⟨_, rfl⟩
        by_cases hlz : z < k
        · have d1 : (z : Int) < (k : Int) := by omega
          have hx := Gf.xor_lt (x := q) (y := m + z) (by omega) (by omega)
          have hp := xor_pos' (a := q) (b := m + z) (by omega)
          have hcy : Hid ((((cyEl m q z).toNat : Nat) : Int) = ((Gf.gi (q ^^^ (m + z)) : Nat) : Int)) := Lib.hid (by rw [cyEl_toNat])
          have u1 := u8_wrap (q : Int) (by omega) (by omega)
          have u2 := u8_wrap ((m : Int) + (z : Int)) (by omega) (by omega)
          have hxx := xor8 (q : Int) ((m : Int) + (z : Int)) (by omega) (by omega) (by omega) (by omega)
          rw [show (q : Int).toNat = q by omega, show ((m : Int) + (z : Int)).toNat = m + z by omega] at hxx
          have hsn : Hid (((List.range (z + 1)).map (cyEl m q)).map byteVal = ((List.range z).map (cyEl m q)).map byteVal ++ [.int .u8 (((cyEl m q z).toNat : Nat) : Int)]) := Lib.hid (by rw [List.range_succ]; simp [byteVal])
          generalize q ^^^ (m + z) = x at *
          have hinv := rinv_some x wr (by omega) hx
          have hgl := Gf.gi_lt x
          obtain ⟨v', w', hap, hown4, hb4⟩ := Own.push (P := Tryz.prog) (T := 99) Tryz.underlying99 hi1 hy0 hy1 hy2 rfl hob (.int .u8 ((Gf.gi x : Nat) : Int)) rfl hbz.size (by simp; omega) (by simp; omega)
          clear hp
          go_wp2_with (first | (go_at_call 129; ((with_reducible refine hinv.mono ?_); rintro e w3 ⟨rfl, rfl⟩)) | (at_builtin; refine wpList_append_run hap _ _ rfl rfl rfl rfl rfl ?_))
          go_roundw
          case rel => exact ⟨z + 1, by omega, by go_num, by rw [hsn.out, hcy.out]; exact hown4, hbz.trans hb4⟩
          case measure => simp [RowKit.intOf]; omega
        · have e : z = k := by omega
          subst e
          have hst := own_back hob.o
          have hown3 := hown.after hbz
          have hb3 : Below w.heap.size w wr := hbel.trans (hbz.mono hbel.size)
          obtain ⟨v', w', hap, hown4, hb4⟩ := Own.push (P := Tryz.prog) (T := 39) Tryz.underlying39 hi hz0 hz1 hz2 rfl hown3 (.string (lineOf ((List.range z).map (cyEl m q)))) rfl hb3.size (by rw [List.length_map, hfl]; omega) (by rw [List.length_map, hfl]; omega)
          go_wp2_with (at_builtin; refine wpList_append_run hap _ _ rfl rfl rfl rfl rfl ?_)
          go_roundw
          case rel => exact ⟨q + 1, by omega, by go_num, by rw [hnx.out]; exact hown4, hb3.trans hb4⟩
          case measure => simp [RowKit.intOf]; omega
    · have e : q = m := by omega
      subst e
      go_wp2
      go_ret2
      exact ⟨u, rfl, hown, hbel⟩
theorem rcauchy_any (k m : Int) (w : World) :
    Calls Tryz.prog 91 #[.int .i64 k, .int .i64 m] w (GivesL w (cyL k m) (cyE k m)) := by
  by_cases h : fitsB k = true ∧ fitsB m = true
  · obtain ⟨a, b⟩ := h
    have h1 : 1 ≤ k ∧ k ≤ 16 := by simpa [fitsB] using a
    have h2 : 1 ≤ m ∧ m ≤ 16 := by simpa [fitsB] using b
    rw [cyL, cyE, a, b]
    obtain ⟨k, rfl⟩ := Int.eq_ofNat_of_zero_le (show 0 ≤ k by omega)
    obtain ⟨m, rfl⟩ := Int.eq_ofNat_of_zero_le (show 0 ≤ m by omega)
    exact rcauchy_ok k m w (by omega) (by omega) (by omega) (by omega)
  · exact rcauchy_bad k m w (by
      cases h1 : fitsB k
      · exact .inl rfl
      · cases h2 : fitsB m
        · exact .inr rfl
        · exact absurd ⟨h1, h2⟩ h)
set_option maxRecDepth 100000 in
set_option maxHeartbeats 2000000 in
theorem scaled_any (c : Nat) (x : ByteArray) (w : World) (hc : c < 256) (hx : x.size ≤ 1000000) :
    Calls Tryz.prog 146 #[.int .u8 (c : Int), .string x] w (Says w (.string (mulAdd (zrow x.size) c x))) := by
  obtain ⟨i1, hi1, hy0, hy1, hy2⟩ := info_parts Tryz.info5
  obtain ⟨w3, hmk3, o3, b3⟩ := Own.make_run (P := Tryz.prog) (T := 99) Tryz.underlying99 hi1 hy0 hy1 hy2 rfl w x.size (by omega) (by omega)
  have hst := own_back (w := w3) (B := w.heap.size) (n := (List.replicate x.size (Value.int .u8 0)).length) (v := .slice (some ⟨w.heap.size, 0, none⟩) x.size x.size) (l := List.replicate x.size 0) (by rw [show (List.replicate x.size (0 : UInt8)).map byteVal = List.replicate x.size (.int .u8 0) by simp [byteVal]]; exact o3.o)
  rw [show lineOf (List.replicate x.size 0) = zrow x.size from rfl] at hst
  have hma := fun W => rmuladd_nat (zrow x.size) x c W hc (by rw [zrow_size]; omega) (by omega)
  go_enter Tryz.func146, Tryz.ntmps146
  go_wp2_with (fail)
  refine (hma _).mono ?_
  rintro e w4 ⟨rfl, b4⟩
  go_wp2_with (fail)
  go_ret
  exact ⟨rfl, below_c b3 b4⟩
end Go.Proofs.YtjgafpkpoppcbaaGreatDoor
end
section
namespace Go.Proofs.YtjgafpkpoppcbaaGreatDoor
open Go.RowKit
theorem drew_c {w w' : World} (h : Below w.drew.heap.size w.drew w') : Below w.heap.size w w' := ⟨h.os, h.tape, h.output, h.size, h.block⟩
def mrowV (f : ByteArray) (b : List ByteArray) (q : Nat) : ByteArray := if q = 0 then ⟨#[]⟩ else comb f b q
set_option maxRecDepth 100000 in
set_option maxHeartbeats 4000000 in
theorem rmxmul_any (va vb : Value) (a b : List ByteArray) (w : World) (hA : Reads w va (tx a)) (hB : Reads w vb (tx b)) (fa : Fits a) (fb : Fits b) :
    Calls Tryz.prog 92 #[va, vb] w (GivesL w (mulL a b) (mulE a b)) := by
  have ra := fun W (hW : Below w.heap.size w W) => mrright_any va a W (hA.below hW) fa
  have rb := fun W (hW : Below w.heap.size w W) => mrright_any vb b W (hB.below hW) fb
  cases h1 : mR a with
  | false =>
    have hz : Hid (mulOk a b = false) := Lib.hid (by simp [mulOk, h1])
    rw [h1] at ra
    obtain ⟨x, hx⟩ : ∃ x, mR b = x := ⟨_, rfl⟩
    rw [hx] at rb
    clear h1 hx
    go_enter Tryz.func92, Tryz.ntmps92
    go_wp2_with (fail)
    refine (ra _ (Below.refl _ _)).mono ?_
    rintro e w1 ⟨rfl, b1⟩
    go_wp2_with (fail)
    refine (rb _ b1).mono ?_
    rintro e w2 ⟨rfl, b2⟩
    cases x
    all_goals
      go_wp2_with (fail)
      go_ret2
      exact mul_bad w a b hz _ (below_c b1 b2)
  | true =>
    cases h2 : mR b with
    | false =>
      have hz : Hid (mulOk a b = false) := Lib.hid (by simp [mulOk, h2])
      rw [h1] at ra
      rw [h2] at rb
      clear h1 h2
      go_enter Tryz.func92, Tryz.ntmps92
      go_wp2_with (fail)
      refine (ra _ (Below.refl _ _)).mono ?_
      rintro e w1 ⟨rfl, b1⟩
      go_wp2_with (fail)
      refine (rb _ b1).mono ?_
      rintro e w2 ⟨rfl, b2⟩
      go_wp2_with (fail)
      go_ret2
      exact mul_bad w a b hz _ (below_c b1 b2)
    | true =>
      obtain ⟨ka1, ka2, ka3, ka4, ka5⟩ := mR_facts h1
      obtain ⟨kb1, kb2, kb3, kb4, kb5⟩ := mR_facts h2
      rw [h1] at ra
      rw [h2] at rb
      rcases hA.srow with ⟨_, rfl⟩ | ⟨ba, oa, ca, rfl, hSa⟩
      · simp at ka1
      rcases hB.srow with ⟨_, rfl⟩ | ⟨bb, ob, cb, rfl, hSb⟩
      · simp at kb1
      have hc0 := fun W (hW : Below w.heap.size w W) => (hSa.below hW).cell 0 (by omega)
      rw [Nat.add_zero] at hc0
      by_cases h3 : (a.getD 0 ⟨#[]⟩).size = b.length
      · have hz : Hid (mulOk a b = true) := Lib.hid (by simp [mulOk, h1, h2]; simpa using h3)
        have h3' := Lib.hid h3
        have t3 : ((((a.getD 0 ⟨#[]⟩).size : Nat) : Int) != ((b.length : Nat) : Int)) = false := by rw [h3]; exact bne_self_eq_false _
        obtain ⟨s0, hs0⟩ : ∃ r, a.getD 0 ⟨#[]⟩ = r := ⟨_, rfl⟩
        have hs0' := Lib.hid hs0
        rw [hs0] at hc0 t3
        clear h1 h2 h3 hs0
        have ka5' := Lib.hid ka5
        have kb5' := Lib.hid kb5
        clear ka5 kb5
        obtain ⟨i0, hi, hz0, hz1, hz2⟩ := info_parts Tryz.infoS
        obtain ⟨i1, hi1, hy0, hy1, hy2⟩ := info_parts Tryz.info5
        go_enter Tryz.func92, Tryz.ntmps92
        go_wp2_with (fail)
        refine (ra _ (Below.refl _ _)).mono ?_
        rintro e w1 ⟨rfl, b1⟩
        go_wp2_with (fail)
        refine (rb _ b1).mono ?_
        rintro e w2 ⟨rfl, b2⟩
        have bw2 := below_c b1 b2
        have hc0' := hc0 _ bw2
        clear hc0
        go_wp2_with (fail)
        go_loopw [8, 9, 10, 11] (fun u i _ _ wr => ∃ k : Nat, k ≤ a.length ∧ i = .int .i64 (k : Int) ∧ Own wr w2.heap.size 9 u (tx (firstL (fun i => comb (a.getD i ⟨#[]⟩) b b.length) k)) ∧ Below w2.heap.size w2 wr) (fun _ i _ _ _ => a.length - (RowKit.intOf i).toNat)
        case atStart => exact ⟨0, by omega, rfl, Own.nil _ _ _, Below.refl _ _⟩
        case round =>
          obtain ⟨k, hk, rfl, hown, hbel⟩ := hrel
          obtain ⟨u, rfl⟩ : ∃ v, v = u8 := ⟨_, rfl⟩
          by_cases hlt : k < a.length
          · have e1 : (k : Int) < (a.length : Int) := by omega
            have hnx := Lib.hid (firstL_succ (fun i => comb (a.getD i ⟨#[]⟩) b b.length) k)
            have hfl := firstL_length (fun i => comb (a.getD i ⟨#[]⟩) b b.length) k
            have cfa := fun W (hW : Below w2.heap.size w2 W) => (hSa.below (below_c bw2 hW)).cell k hlt
            have hfs : b.length ≤ (a.getD k ⟨#[]⟩).size := by rw [ka5'.out k hlt, h3'.out]; exact Nat.le_refl _
            have hfs2 : (a.getD k ⟨#[]⟩).size ≤ 16 := by rw [ka5'.out k hlt, h3'.out]; exact kb2
            generalize a.getD k ⟨#[]⟩ = f at *
            obtain ⟨wo, rfl⟩ : ∃ wo : World, wo = wr := ⟨_, rfl⟩
            go_wp2_with (fail)
            go_loopw [10, 11] (fun r j wr => ∃ q : Nat, q ≤ b.length ∧ j = .int .i64 (q : Int) ∧ r = .string (mrowV f b q) ∧ Below wo.heap.size wo wr) (fun _ j _ => b.length - (RowKit.intOf j).toNat)
            case atStart => exact ⟨0, by omega, rfl, rfl, Below.refl _ _⟩
            case round =>
              obtain ⟨q, hq, rfl, rfl, hbq⟩ := hrel
              have hb2 : Below w2.heap.size w2 wr := hbel.trans (hbq.mono hbel.size)
              by_cases hlq : q < b.length
              · have d1 : (q : Int) < (b.length : Int) := by omega
                have d2 : (q : Int) < (f.size : Int) := by omega
                have hqf : q < f.size := by omega
                have cb := fun W (hW : Below w2.heap.size w2 W) => (hSb.below (below_c bw2 hW)).cell q hlq
                have cf := cfa wr hb2
                have cbr := cb wr hb2
                have cb0 := (hSb.below (below_c bw2 hb2)).cell 0 (by omega)
                rw [Nat.add_zero] at cb0
                have hbs := kb5'.out q hlq
                have hC : comb f b (q + 1) = mulAdd (comb f b q) (bt f q) (b.getD q ⟨#[]⟩) := rfl
                have hV : mrowV f b (q + 1) = comb f b (q + 1) := if_neg (by omega)
                have hV' := Lib.hid (hV.trans hC)
                have hcs := comb_size f b q
                have hma := fun W => rmuladd_nat (comb f b q) (b.getD q ⟨#[]⟩) (bt f q) W (bt_lt _ _) (by rw [hcs]; omega) (by rw [hbs]; omega)
                have hbtf : ((bt f q : Nat) : Int) = ((f[q].toNat : Nat) : Int) := by rw [bt_get hqf]
                rw [hbtf] at hma
                by_cases h0 : q = 0
                · subst h0
                  have hr0 : mrowV f b 0 = ⟨#[]⟩ := rfl
                  have hcz : comb f b 0 = zrow (b.getD 0 ⟨#[]⟩).size := rfl
                  rw [hcz] at hma hV'
                  rw [hr0]
                  clear hcz hcs hC hV hbtf cbr hbs hr0 cb
                  generalize b.getD 0 ⟨#[]⟩ = b0 at *
                  obtain ⟨w3, hmk3, o3, b3⟩ := Own.make_run (P := Tryz.prog) (T := 99) Tryz.underlying99 hi1 hy0 hy1 hy2 rfl wr b0.size (by omega) (by omega)
                  have hst := own_back (w := w3) (B := wr.heap.size) (n := (List.replicate b0.size (Value.int .u8 0)).length) (v := .slice (some ⟨wr.heap.size, 0, none⟩) b0.size b0.size) (l := List.replicate b0.size 0) (by rw [show (List.replicate b0.size (0 : UInt8)).map byteVal = List.replicate b0.size (.int .u8 0) by simp [byteVal]]; exact o3.o)
                  rw [show lineOf (List.replicate b0.size 0) = zrow b0.size from rfl] at hst
                  have cf3 := cfa w3 (below_c hb2 b3)
                  have cb3 := (hSb.below (below_c bw2 (below_c hb2 b3))).cell 0 (by omega)
                  rw [Nat.add_zero] at cb3
                  have cb3' : w3.cell? ⟨bb, ob, none⟩ = some (.string b0) := by
                    rw [b3.cell (p := ⟨bb, ob, none⟩) (Nat.lt_of_lt_of_le hSb.lt (below_c bw2 hb2).size)]; exact cb0
                  clear cfa cb3
                  go_wp2_with (fail)
                  go_still_tail 11, (by kernel_rfl)
                  go_wp2_with (fail)
                  refine (hma _).mono ?_
                  rintro e w4 ⟨rfl, b4⟩
                  go_wp2_with (fail)
                  go_roundw
                  case rel => exact ⟨0 + 1, by omega, rfl, by rw [hV'.out], below_c (below_c hbq b3) (drew_c b4)⟩
                  case measure => simp [RowKit.intOf]; omega
                · have e0 : ((q : Int) == 0) = false := by rw [beq_eq_false_iff_ne]; omega
                  have hr0 : mrowV f b q = comb f b q := if_neg h0
                  rw [hr0]
                  clear hcs hC hV hbtf hr0 hbs cfa cb h0 cb0
                  generalize comb f b q = row at *
                  generalize b.getD q ⟨#[]⟩ = bq at *
                  go_wp2_with (fail)
                  go_still_tail 11, (by kernel_rfl)
                  go_wp2_with (fail)
                  refine (hma _).mono ?_
                  rintro e w4 ⟨rfl, b4⟩
                  go_wp2_with (fail)
                  go_roundw
                  case rel => exact ⟨q + 1, by omega, by go_num, by rw [hV'.out], below_c hbq (drew_c b4)⟩
                  case measure => simp [RowKit.intOf]; omega
              · have e : q = b.length := by omega
                have hr0 : mrowV f b q = comb f b q := if_neg (by omega)
                subst e
                rw [hr0]
                have hown3 := hown.after hbq
                obtain ⟨v', w', hap, hown4, hb4⟩ := Own.push (P := Tryz.prog) (T := 39) Tryz.underlying39 hi hz0 hz1 hz2 rfl hown3 (.string (comb f b b.length)) rfl hb2.size (by rw [List.length_map, hfl]; omega) (by rw [List.length_map, hfl]; omega)
                clear cfa hr0
                go_wp2_with (at_builtin; refine wpList_append_run hap _ _ rfl rfl rfl rfl rfl ?_)
                go_roundw
                case rel => exact ⟨k + 1, by omega, by go_num, by rw [hnx.out]; exact hown4, hb2.trans hb4⟩
                case measure => simp [RowKit.intOf]; omega
          · have e : k = a.length := by omega
            subst e
            go_wp2
            go_ret2
            refine ⟨u, by rw [mulE, if_pos hz.out]; rfl, ?_, below_c bw2 hbel⟩
            rw [mulL, if_pos hz.out, show a.map (fun f => comb f b b.length) = firstL (fun i => comb (a.getD i ⟨#[]⟩) b b.length) a.length by
              apply List.ext_getElem
              · rw [firstL_length, List.length_map]
              · intro i h1 h2
                rw [List.length_map] at h1
                simp [firstL, List.getD_eq_getElem?_getD, h1]]
            exact hown.mono bw2.size
      · have hz : Hid (mulOk a b = false) := Lib.hid (by simp [mulOk, h1, h2]; simpa using h3)
        have t3 : ((((a.getD 0 ⟨#[]⟩).size : Nat) : Int) != ((b.length : Nat) : Int)) = true := by rw [bne_iff_ne]; omega
        obtain ⟨s0, hs0⟩ : ∃ r, a.getD 0 ⟨#[]⟩ = r := ⟨_, rfl⟩
        rw [hs0] at hc0 t3
        clear h1 h2 h3 hs0 ka5 kb5
        go_enter Tryz.func92, Tryz.ntmps92
        go_wp2_with (fail)
        refine (ra _ (Below.refl _ _)).mono ?_
        rintro e w1 ⟨rfl, b1⟩
        go_wp2_with (fail)
        refine (rb _ b1).mono ?_
        rintro e w2 ⟨rfl, b2⟩
        have bw2 := below_c b1 b2
        have hc0' := hc0 _ bw2
        clear hc0
        go_wp2_with (fail)
        go_ret2
        exact mul_bad w a b hz _ bw2
end Go.Proofs.YtjgafpkpoppcbaaGreatDoor
end
section
namespace Go.Proofs.YtjgafpkpoppcbaaGreatDoor
open Go.RowKit
theorem mstep_append_run {P : Program} {ops : Array Oper} {o : Oper} {a : Act} {w : World} {K : Act → World → Prop} {Q : Exit → Act → World → Prop} {E : Prop} {t ty : TypeId} {v xv v' : Value} {w' : World}
    (hr : (Builtin.append_ #[t, t] ty #[v, xv]).run P w = .ok v' w') (s x : Operand) (hg : o.guard = none) (hop : o.op = Op.call { callee := Callee.builtin Builtin.append, args := #[s, x], argTypes := #[t, t] })
    (hty : o.type = ty) (hs : a.eval s = v) (hx : a.eval x = xv) (hK : K (a.put o.dst v') w') : if Region.wanted o (yielded ops a.tmps) = true then Oper.wp P o a w K Q else E := by
  have hw : Region.wanted o (yielded ops a.tmps) = true := by simp [Region.wanted, hg]
  rw [if_pos hw]
  subst hty
  unfold Oper.wp
  simp [execOp, hop, resolve, invoke, builtin, hs, hx, hr, Result.andThen]
  exact hK
def Fnd (l : List ByteArray) (c k : Nat) (P : Int) : Prop :=
  (P = -1 ∧ ∀ j, c ≤ j → j < k → bt (l.getD j ⟨#[]⟩) c = 0) ∨ (∃ p : Nat, P = (p : Int) ∧ c ≤ p ∧ p < k ∧ bt (l.getD p ⟨#[]⟩) c ≠ 0 ∧ ∀ j, c ≤ j → j < p → bt (l.getD j ⟨#[]⟩) c = 0)
theorem Fnd.start (l : List ByteArray) (c : Nat) : Fnd l c c (-1) := .inl ⟨rfl, fun j h1 h2 => by omega⟩
theorem Fnd.keep {l : List ByteArray} {c k : Nat} {P : Int} (h : Fnd l c k P) (h0 : 0 ≤ P) : Fnd l c (k + 1) P := by
  rcases h with ⟨h, _⟩ | ⟨p, h1, h2, h3, h4, h5⟩
  · omega
  · exact .inr ⟨p, h1, h2, by omega, h4, h5⟩
theorem Fnd.zero {l : List ByteArray} {c k : Nat} {P : Int} (h : Fnd l c k P) (h0 : P < 0) (hb : bt (l.getD k ⟨#[]⟩) c = 0) : Fnd l c (k + 1) P := by
  rcases h with ⟨h, h2⟩ | ⟨p, h1, _⟩
  · refine .inl ⟨h, fun j hj1 hj2 => ?_⟩
    by_cases e : j = k
    · subst e; exact hb
    · exact h2 j hj1 (by omega)
  · omega
theorem Fnd.found {l : List ByteArray} {c k : Nat} {P : Int} (h : Fnd l c k P) (h0 : P < 0) (hc : c ≤ k) (hb : bt (l.getD k ⟨#[]⟩) c ≠ 0) : Fnd l c (k + 1) (k : Int) := by
  rcases h with ⟨h, h2⟩ | ⟨p, h1, _⟩
  · exact .inr ⟨k, rfl, hc, by omega, hb, h2⟩
  · omega
theorem Fnd.pvt {l : List ByteArray} {c n : Nat} {P : Int} (h : Fnd l c n P) (hc : c ≤ n) : (P = -1 ∧ pvt l c (n - c) c = n) ∨ (∃ p : Nat, P = (p : Int) ∧ p < n ∧ pvt l c (n - c) c = p ∧ bt (l.getD p ⟨#[]⟩) c ≠ 0) := by
  obtain ⟨q1, q2, q3, q4⟩ := pvt_spec l c (n - c) c
  rw [show c + (n - c) = n by omega] at q2 q3
  rcases h with ⟨h1, h2⟩ | ⟨p, h1, h2, h3, h4, h5⟩
  · left
    refine ⟨h1, ?_⟩
    rcases Nat.lt_or_ge (Go.Proofs.YtjgafpkpoppcbaaGreatDoor.pvt l c (n - c) c) n with hlt | hge
    · exact absurd (h2 _ q1 hlt) (q3 hlt)
    · omega
  · right
    refine ⟨p, h1, h3, ?_, h4⟩
    rcases Nat.lt_trichotomy (Go.Proofs.YtjgafpkpoppcbaaGreatDoor.pvt l c (n - c) c) p with hlt | he | hgt
    · exact absurd (h5 _ q1 hlt) (q3 (by omega))
    · exact he
    · exact absurd (q4 p h2 hgt) h4
def rTo (S : List ByteArray) (c : Nat) (o : ByteArray) (k : Nat) : List ByteArray := (redTo S c o k).set c o
theorem rTo_length (S : List ByteArray) (c : Nat) (o : ByteArray) (k : Nat) : (rTo S c o k).length = S.length := by rw [rTo, List.length_set, redTo_length]
theorem rTo_zero (S : List ByteArray) (c : Nat) (o : ByteArray) : rTo S c o 0 = S.set c o := by rw [rTo, redTo_zero]
theorem rTo_all (S : List ByteArray) (c : Nat) (o : ByteArray) : rTo S c o S.length = (S.map (redRow o c)).set c o := by rw [rTo, redTo_all]
theorem rTo_skip (S : List ByteArray) {c : Nat} (o : ByteArray) (h : c < S.length) : rTo S c o (c + 1) = rTo S c o c := by
  rw [rTo, rTo, redTo_succ S c o h, List.set_set]
theorem rTo_next (S : List ByteArray) {c k : Nat} (o : ByteArray) (h : k < S.length) (hne : k ≠ c) : tx (rTo S c o (k + 1)) = (tx (rTo S c o k)).set k (.string (redRow o c (S.getD k ⟨#[]⟩))) := by
  rw [rTo, rTo, redTo_succ S c o h, List.set_comm _ _ hne, tx, tx, List.map_set]
theorem rTo_at (S : List ByteArray) {c k : Nat} (o : ByteArray) (hne : k ≠ c) : (rTo S c o k).getD k ⟨#[]⟩ = S.getD k ⟨#[]⟩ := by
  rw [rTo, List.getD_eq_getElem?_getD, List.getElem?_set_ne (Ne.symm hne), ← List.getD_eq_getElem?_getD, redTo_at]
theorem rTo_own (S : List ByteArray) {c : Nat} (o : ByteArray) (k : Nat) (h : c < S.length) : (rTo S c o k).getD c ⟨#[]⟩ = o := by
  rw [rTo, List.getD_eq_getElem?_getD, List.getElem?_set_self (by rw [redTo_length]; exact h)]; rfl
theorem start_eq (l : List ByteArray) {c p : Nat} (hc : c < l.length) (hp : p < l.length) (o : ByteArray) : (l.set p (l.getD c ⟨#[]⟩)).set c o = (swapL l c p).set c o := by
  rw [swapL]
  by_cases e : p = c
  · subst e; rw [List.set_set, List.set_set, List.set_set]
  · rw [List.set_comm (l.getD p ⟨#[]⟩) (l.getD c ⟨#[]⟩) (Ne.symm e), List.set_set]
set_option maxRecDepth 100000 in
set_option maxHeartbeats 8000000 in
theorem rinverse_any (va : Value) (a : List ByteArray) (w : World) (hA : Reads w va (tx a)) (fa : Fits a) :
    Calls Tryz.prog 115 #[va] w (GivesL w (invL a) (invE a)) := by
  have ra := fun W (hW : Below w.heap.size w W) => mrright_any va a W (hA.below hW) fa
  cases h1 : mR a with
  | false =>
    have hz : Hid (sqB a = false) := Lib.hid (by simp [sqB, h1])
    rw [h1] at ra
    clear h1
    go_enter Tryz.func115, Tryz.ntmps115
    go_wp2_with (fail)
    refine (ra _ (Below.refl _ _)).mono ?_
    rintro e w1 ⟨rfl, b1⟩
    go_wp2_with (fail)
    go_ret2
    exact inv_bad w a hz _ b1
  | true =>
    obtain ⟨k1, k2, k3, k4, k5⟩ := mR_facts h1
    rw [h1] at ra
    rcases hA.srow with ⟨_, rfl⟩ | ⟨ba, oa, ca, rfl, hSa⟩
    · simp at k1
    have hc0 := fun W (hW : Below w.heap.size w W) => (hSa.below hW).cell 0 (by omega)
    rw [Nat.add_zero] at hc0
    obtain ⟨s0, hs0⟩ : ∃ r, a.getD 0 ⟨#[]⟩ = r := ⟨_, rfl⟩
    cases h2 : (s0.size == a.length) with
    | false =>
      have hz : Hid (sqB a = false) := Lib.hid (by rw [sqB, hs0, h2]; simp)
      have t3 : (((a.length : Nat) : Int) != ((s0.size : Nat) : Int)) = true := by rw [bne_iff_ne]; rw [beq_eq_false_iff_ne] at h2; omega
      rw [hs0] at hc0
      clear h1 h2 hs0 k5
      go_enter Tryz.func115, Tryz.ntmps115
      go_wp2_with (fail)
      refine (ra _ (Below.refl _ _)).mono ?_
      rintro e w1 ⟨rfl, b1⟩
      have hc0' := hc0 _ b1
      clear hc0
      go_wp2_with (fail)
      go_ret2
      exact inv_bad w a hz _ b1
    | true =>
      have hz : Hid (sqB a = true) := Lib.hid (by rw [sqB, hs0, h2, h1]; rfl)
      have hsz : Hid (∀ i, i < a.length → (a.getD i ⟨#[]⟩).size = a.length) := Lib.hid (sqB_facts hz.out).2.2.2
      have t3 : (((a.length : Nat) : Int) != ((s0.size : Nat) : Int)) = false := by rw [beq_iff_eq] at h2; rw [h2]; exact bne_self_eq_false _
      rw [hs0] at hc0
      have hidn := fun W => ridentity_any (a.length : Int) W (by omega)
      rw [idL, idE, if_pos (by simp [fitsB]; omega), if_pos (by simp [fitsB]; omega), show ((a.length : Int)).toNat = a.length by omega] at hidn
      clear h1 h2 hs0 k5
      obtain ⟨i0, hi, hz0, hz1, hz2⟩ := info_parts Tryz.infoS
      go_enter Tryz.func115, Tryz.ntmps115
      go_wp2_with (fail)
      refine (ra _ (Below.refl _ _)).mono ?_
      rintro e w1 ⟨rfl, b1⟩
      have hc0' := hc0 _ b1
      clear hc0
      go_wp2_with (fail)
      refine (hidn _).mono ?_
      rintro e w2 ⟨vu, rfl, hou, b2⟩
      obtain ⟨gu, cu, hvu, hgu1, hgu2⟩ := hou.form (by rw [List.length_map, mkM_length]; omega)
      rw [List.length_map, mkM_length] at hvu
      subst hvu
      have bw2 := below_c b1 b2
      go_wp2_with (fail)
      go_loopw [8, 9] (fun u i wr => ∃ k : Nat, k ≤ a.length ∧ i = .int .i64 (k : Int) ∧ Own wr w2.heap.size 9 u (tx (firstL (fun i => a.getD i ⟨#[]⟩ ++ (mkM idEl a.length a.length).getD i ⟨#[]⟩) k)) ∧ Below w2.heap.size w2 wr) (fun _ i _ => a.length - (RowKit.intOf i).toNat)
      case atStart => exact ⟨0, by omega, rfl, Own.nil _ _ _, Below.refl _ _⟩
      case round =>
        obtain ⟨k, hk, rfl, hown, hbel⟩ := hrel
        obtain ⟨u, rfl⟩ : ∃ v, v = u8 := ⟨_, rfl⟩
        by_cases hlt : k < a.length
        · have hca := (hSa.below (below_c bw2 hbel)).cell k hlt
          have hcu := (hou.after hbel).cell (i := k) (by rw [List.length_map, mkM_length]; exact hlt)
          rw [tx_getD _ (by rw [mkM_length]; exact hlt)] at hcu
          have hnx := Lib.hid (firstL_succ (fun i => a.getD i ⟨#[]⟩ ++ (mkM idEl a.length a.length).getD i ⟨#[]⟩) k)
          have hfl := firstL_length (fun i => a.getD i ⟨#[]⟩ ++ (mkM idEl a.length a.length).getD i ⟨#[]⟩) k
          have b1' : (k : Int) < (a.length : Int) := by omega
          have hrk := hsz.out k hlt
          have huk := mkM_size idEl (m := a.length) (n := a.length) hlt
          have hadd : ¬ 9223372036854775807 < (a.getD k ⟨#[]⟩).size + ((mkM idEl a.length a.length).getD k ⟨#[]⟩).size := by omega
          clear hrk huk
          obtain ⟨v', w', hap, hown4, hb4⟩ := Own.push (P := Tryz.prog) (T := 39) Tryz.underlying39 hi hz0 hz1 hz2 rfl hown.drew (.string (a.getD k ⟨#[]⟩ ++ (mkM idEl a.length a.length).getD k ⟨#[]⟩)) rfl (by simpa using hbel.size) (by rw [List.length_map, hfl]; omega) (by rw [List.length_map, hfl]; omega)
          rw [show wr.drew.heap.size = wr.heap.size from rfl] at hap
          generalize a.getD k ⟨#[]⟩ = rk at *
          generalize (mkM idEl a.length a.length).getD k ⟨#[]⟩ = uk at *
          clear hc0'
          go_wp2_with (fail)
          go_region_law (refine mstep_append_run hap _ _ rfl rfl rfl rfl rfl ?_)
          all_goals
            go_wp2
            go_roundw
            case rel => exact ⟨k + 1, by omega, by go_num, by rw [hnx.out]; exact hown4, (hbel.drew).trans hb4⟩
            case measure => simp [RowKit.intOf]; omega
        · have e : k = a.length := by omega
          subst e
          obtain ⟨g, cap, hvw, hg1, hg2⟩ := hown.form (by rw [List.length_map, firstL_length]; omega)
          rw [List.length_map, firstL_length] at hvw
          subst hvw
          have hsz0 : Hid (∀ i, i < a.length → ((stL a).getD i ⟨#[]⟩).size = a.length + a.length) := Lib.hid (fun i hi => by
            rw [stL, List.getD_eq_getElem?_getD, List.getElem?_map, List.getElem?_range hi]
            show (a.getD i ⟨#[]⟩ ++ (mkM idEl a.length a.length).getD i ⟨#[]⟩).size = _
            rw [app_size, hsz.out i hi, mkM_size _ hi])
          have hln0 : (stL a).length = a.length := by simp [stL]
          rw [show firstL (fun i => a.getD i ⟨#[]⟩ ++ (mkM idEl a.length a.length).getD i ⟨#[]⟩) a.length = stL a from rfl] at hown
          have bw3 := below_c bw2 hbel
          have hgB : w2.heap.size ≤ g := hown.lt.1
          clear hc0' hou hgu1 hgu2
          go_wp2_with (fail)
          go_loopw [10, 11, 12, 13, 14, 15, 16] (fun c _ _ _ _ _ _ wr => ∃ (k : Nat) (l : List ByteArray), k ≤ a.length ∧ c = .int .i64 (k : Int) ∧ Own wr w2.heap.size 9 (.slice (some ⟨g, 0, none⟩) a.length cap) (tx l) ∧ l.length = a.length ∧ Hid (∀ i, i < a.length → (l.getD i ⟨#[]⟩).size = a.length + a.length) ∧ Hid (gj a.length 0 (stL a) = gj (a.length - k) k l) ∧ Below w2.heap.size w2 wr) (fun c _ _ _ _ _ _ _ => a.length - (RowKit.intOf c).toNat)
          case atStart => exact ⟨0, stL a, by omega, rfl, hown, hln0, hsz0, Lib.hid rfl, hbel⟩
          case round =>
            obtain ⟨c, l, hc, rfl, hown, hll, hsl, hgj, hbel⟩ := hrel
            by_cases hlt : c < a.length
            · have e1 : (c : Int) < (a.length : Int) := by omega
              have hgs := hgj.out
              rw [show a.length - c = (a.length - (c + 1)) + 1 by omega, gj, hll] at hgs
              have hgs' := Lib.hid hgs
              clear hgs hgj
              obtain ⟨wo, rfl⟩ : ∃ wo : World, wo = wr := ⟨_, rfl⟩
              go_wp2_with (fail)
              go_loopw [11, 12] (fun P i wr => ∃ (k : Nat) (p : Int), c ≤ k ∧ k ≤ a.length ∧ i = .int .i64 (k : Int) ∧ P = .int .i64 p ∧ -1 ≤ p ∧ p ≤ 1000 ∧ Hid (Fnd l c k p) ∧ wo = wr) (fun _ i _ => a.length - (RowKit.intOf i).toNat)
              case atStart => exact ⟨c, -1, by omega, by omega, rfl, rfl, by omega, by omega, Lib.hid (Fnd.start l c), rfl⟩
              case round =>
                obtain ⟨k, p, hk1, hk2, rfl, rfl, hp1, hp2, hf, rfl⟩ := hrel
                by_cases hkn : k < a.length
                · have d1 : (k : Int) < (a.length : Int) := by omega
                  by_cases hp0 : p < 0
                  · have d2 : decide (p < 0) = true := by simpa using hp0
                    have hck := hown.cell (i := k) (by rw [List.length_map]; omega)
                    rw [tx_getD l (by omega)] at hck
                    have hsk := hsl.out k hkn
                    have d3 : c < (l.getD k ⟨#[]⟩).size := by omega
                    have d4 : (c : Int) < ((l.getD k ⟨#[]⟩).size : Int) := by omega
                    by_cases hb : bt (l.getD k ⟨#[]⟩) c = 0
                    · have hf' := Lib.hid (hf.out.zero hp0 hb)
                      have t : (((l.getD k ⟨#[]⟩)[c].toNat : Int) != 0) = false := by rw [bt_get d3, hb]; rfl
                      clear hb hsk
                      generalize l.getD k ⟨#[]⟩ = rk at *
                      go_wp2_with (fail)
                      go_roundw
                      case rel => exact ⟨k + 1, p, by omega, by omega, by go_num, rfl, by omega, by omega, hf', (by first | rfl | trivial)⟩
                      case measure => simp [RowKit.intOf]; omega
                    · have hf' := Lib.hid (hf.out.found hp0 hk1 hb)
                      have t : (((l.getD k ⟨#[]⟩)[c].toNat : Int) != 0) = true := by rw [bt_get d3, bne_iff_ne]; omega
                      clear hb hsk
                      generalize l.getD k ⟨#[]⟩ = rk at *
                      go_wp2_with (fail)
                      go_roundw
                      case rel => exact ⟨k + 1, (k : Int), by omega, by omega, by go_num, rfl, by omega, by omega, hf', (by first | rfl | trivial)⟩
                      case measure => simp [RowKit.intOf]; omega
                  · have d2 : decide (p < 0) = false := by simpa using hp0
                    have hf' := Lib.hid (hf.out.keep (by omega))
                    go_wp2_with (fail)
                    go_roundw
                    case rel => exact ⟨k + 1, p, by omega, by omega, by go_num, rfl, by omega, by omega, hf', (by first | rfl | trivial)⟩
                    case measure => simp [RowKit.intOf]; omega
                · have e : k = a.length := by omega
                  subst e
                  rcases hf.out.pvt (by omega) with ⟨rfl, hq⟩ | ⟨p, rfl, hpn, hq, hnz⟩
                  · have hgn := hgs'.out
                    rw [hq, if_pos rfl] at hgn
                    have hgn' := Lib.hid hgn
                    clear hgn hq
                    go_wp2_with (fail)
                    go_ret2
                    exact ⟨.slice none 0 0, by rw [invE, if_pos hz.out, hgn'.out]; rfl, by rw [invL, if_pos hz.out, hgn'.out]; exact Own.nil _ _ _, below_c bw2 hbel⟩
                  · have hgn := hgs'.out
                    rw [hq, if_neg (by omega)] at hgn
                    have hgn' := Lib.hid hgn
                    clear hgn hq
                    have hcp := hown.cell (i := p) (by rw [List.length_map]; omega)
                    rw [tx_getD l (by omega)] at hcp
                    have hcc := hown.cell (i := c) (by rw [List.length_map]; omega)
                    rw [tx_getD l (by omega)] at hcc
                    have hfp := hown.frozen p
                    have hsp := hsl.out p hpn
                    have d3 : c < (l.getD p ⟨#[]⟩).size := by omega
                    have d4 : (c : Int) < ((l.getD p ⟨#[]⟩).size : Int) := by omega
                    have d5 : (p : Int) < (a.length : Int) := by omega
                    have hbl := bt_lt (l.getD p ⟨#[]⟩) c
                    have hgi := Gf.gi_lt (bt (l.getD p ⟨#[]⟩) c)
                    have hinv := fun W => rinv_pos ((((l.getD p ⟨#[]⟩)[c]).toNat : Nat) : Int) W (by rw [bt_get d3]; omega) (by rw [bt_get d3]; omega)
                    rw [show ((((l.getD p ⟨#[]⟩)[c]).toNat : Nat) : Int).toNat = bt (l.getD p ⟨#[]⟩) c by rw [bt_get d3]; omega] at hinv
                    have hsca := fun W => scaled_any (Gf.gi (bt (l.getD p ⟨#[]⟩) c)) (l.getD p ⟨#[]⟩) W hgi (by omega)
                    have hSc : (swapL l c p).getD c ⟨#[]⟩ = l.getD p ⟨#[]⟩ := by rw [swapL_get l (by omega) (by omega), show Mx.swp c p c = p from if_pos rfl]
                    have hown_eq : mulAdd (zrow (l.getD p ⟨#[]⟩).size) (Gf.gi (bt (l.getD p ⟨#[]⟩) c)) (l.getD p ⟨#[]⟩) = ownRow (swapL l c p) c := by rw [ownRow, hSc]
                    rw [hown_eq] at hsca
                    have hst := start_eq l (c := c) (p := p) (by omega) (by omega) (ownRow (swapL l c p) c)
                    have hred : Hid (redL (swapL l c p) c = ((swapL l c p).map (redRow (ownRow (swapL l c p) c) c)).set c (ownRow (swapL l c p) c)) := Lib.hid rfl
                    have hlS : (swapL l c p).length = a.length := by rw [swapL_length, hll]
                    have hsS : Hid (∀ i, i < a.length → ((swapL l c p).getD i ⟨#[]⟩).size = a.length + a.length) := Lib.hid (fun i hi => by rw [swapL_get l (by omega) (by omega)]; exact hsl.out _ (swp_lt' hlt hpn hi))
                    have hso : (ownRow (swapL l c p) c).size = a.length + a.length := by rw [ownRow, mulAdd_size, zrow_size, hsS.out c hlt]
                    have hsr : Hid (∀ i, i < a.length → ((redL (swapL l c p) c).getD i ⟨#[]⟩).size = a.length + a.length) := Lib.hid (fun i hi => redL_size _ (by omega) (by omega) (fun j hj => hsS.out j (by omega)))
                    have hlr : (redL (swapL l c p) c).length = a.length := by rw [redL_length, hlS]
                    generalize ownRow (swapL l c p) c = o at *
                    have o1 := hown.set p (.string (l.getD c ⟨#[]⟩))
                    rw [show (tx l).set p (.string (l.getD c ⟨#[]⟩)) = tx (l.set p (l.getD c ⟨#[]⟩)) by rw [tx, tx, List.map_set]] at o1
                    have bo1 : Below w2.heap.size w2 (wo.setCell ⟨g, p, none⟩ (.string (l.getD c ⟨#[]⟩))) := hbel.setCell hgB _
                    have hst' := Lib.hid hst
                    have hred' := hred
                    clear hst hSc hown_eq hsp hbl hgi hnz
                    generalize hT : l.set p (l.getD c ⟨#[]⟩) = T at *
                    have hlT : T.length = a.length := by rw [← hT, List.length_set, hll]
                    generalize l.getD p ⟨#[]⟩ = up at *
                    generalize l.getD c ⟨#[]⟩ = lc at *
                    clear hT
                    go_wp2_with (fail)
                    refine (hinv _).mono ?_
                    rintro e wq ⟨rfl, rfl⟩
                    go_wp2_with (fail)
                    refine (hsca _).mono ?_
                    rintro e w5 ⟨rfl, b5⟩
                    have o5 := o1.after b5
                    have b5' := bo1.trans (b5.mono (by simpa using bo1.size))
                    have hf5 := o5.frozen c
                    have hc5 := o5.cell (i := c) (by rw [List.length_map]; omega)
                    have o6 := o5.set c (.string o)
                    rw [show (tx T).set c (.string o) = tx (T.set c o) by rw [tx, tx, List.map_set], hst'.out, ← rTo_zero] at o6
                    have b6 : Below w2.heap.size w2 (w5.setCell ⟨g, c, none⟩ (.string o)) := b5'.setCell hgB _
                    clear hcp hcc hfp o1 o5 b5 b5' bo1 hinv hsca
                    generalize swapL l c p = S at *
                    go_wp2_with (fail)
                    go_loopw [16] (fun i wr => ∃ k : Nat, k ≤ a.length ∧ i = .int .i64 (k : Int) ∧ Own wr w2.heap.size 9 (.slice (some ⟨g, 0, none⟩) a.length cap) (tx (rTo S c o k)) ∧ Below w2.heap.size w2 wr) (fun i _ => a.length - (RowKit.intOf i).toNat)
                    case atStart => exact ⟨0, by omega, rfl, o6, b6⟩
                    case round =>
                      obtain ⟨k, hk, rfl, ho, hbk⟩ := hrel
                      by_cases hka : k < a.length
                      · have f1 : (k : Int) < (a.length : Int) := by omega
                        by_cases hkc : k = c
                        · subst hkc
                          have f2 : ((k : Int) != (k : Int)) = false := bne_self_eq_false _
                          have hsk := Lib.hid (rTo_skip S (c := k) o (by omega))
                          go_wp2_with (fail)
                          go_roundw
                          case rel => exact ⟨k + 1, by omega, by go_num, by rw [hsk.out]; exact ho, hbk⟩
                          case measure => simp [RowKit.intOf]; omega
                        · have f2 : ((k : Int) != (c : Int)) = true := by rw [bne_iff_ne]; omega
                          have gk := ho.cell (i := k) (by rw [List.length_map, rTo_length]; omega)
                          rw [tx_getD _ (by rw [rTo_length]; omega), rTo_at S o hkc] at gk
                          have gc := ho.cell (i := c) (by rw [List.length_map, rTo_length]; omega)
                          rw [tx_getD _ (by rw [rTo_length]; omega), rTo_own S o k (by omega)] at gc
                          have hsk := hsS.out k hka
                          have hnx := Lib.hid (rTo_next S o (show k < S.length by omega) hkc)
                          have f3 : c < (S.getD k ⟨#[]⟩).size := by omega
                          have f4 : (c : Int) < ((S.getD k ⟨#[]⟩).size : Int) := by omega
                          have hma := fun W => rmuladd_nat (S.getD k ⟨#[]⟩) o (bt (S.getD k ⟨#[]⟩) c) W (bt_lt _ _) (by omega) (by omega)
                          rw [show mulAdd (S.getD k ⟨#[]⟩) (bt (S.getD k ⟨#[]⟩) c) o = redRow o c (S.getD k ⟨#[]⟩) from rfl, show ((bt (S.getD k ⟨#[]⟩) c : Nat) : Int) = ((((S.getD k ⟨#[]⟩)[c]).toNat : Nat) : Int) by rw [bt_get f3]] at hma
                          clear hsk
                          generalize S.getD k ⟨#[]⟩ = rk at *
                          go_wp2_with (fail)
                          go_region_with ((go_at_call 131; refine (hma _).mono ?_; rintro e w7 ⟨rfl, b7⟩; have b7' := drew_c b7; have ho7 := ho.after b7'; have hf7 := ho7.frozen k; have hc7 := ho7.cell (i := k) (by rw [List.length_map, rTo_length]; omega)))
                          all_goals
                            go_wp2
                            go_roundw
                            case rel => exact ⟨k + 1, by omega, by go_num, by rw [hnx.out]; exact ho7.set k _, (hbk.trans (b7'.mono hbk.size)).setCell hgB _⟩
                            case measure => simp [RowKit.intOf]; omega
                      · have e : k = a.length := by omega
                        have hall := rTo_all S c o
                        rw [hlS] at hall
                        subst e
                        rw [hall, ← hred'.out] at ho
                        clear hall
                        go_wp2_with (fail)
                        go_roundw
                        case rel => exact ⟨c + 1, _, by omega, by go_num, ho, hlr, hsr, hgn', hbk⟩
                        case measure => simp [RowKit.intOf]; omega
            · have e : c = a.length := by omega
              subst e
              have hgs := hgj.out
              rw [show a.length - a.length = 0 by omega, gj] at hgs
              have hgs' := Lib.hid hgs
              clear hgs hgj
              obtain ⟨wo, rfl⟩ : ∃ wo : World, wo = wr := ⟨_, rfl⟩
              go_wp2_with (fail)
              go_loopw [17, 18] (fun u i wr => ∃ q : Nat, q ≤ a.length ∧ i = .int .i64 (q : Int) ∧ Own wr wo.heap.size 9 u (tx (firstL (fun i => (l.getD i ⟨#[]⟩).extract a.length (l.getD i ⟨#[]⟩).size) q)) ∧ Below wo.heap.size wo wr) (fun _ i _ => a.length - (RowKit.intOf i).toNat)
              case atStart => exact ⟨0, by omega, rfl, Own.nil _ _ _, Below.refl _ _⟩
              case round =>
                obtain ⟨q, hq, rfl, ho, hbq⟩ := hrel
                obtain ⟨u, rfl⟩ : ∃ v, v = u17 := ⟨_, rfl⟩
                by_cases hlq : q < a.length
                · have f1 : (q : Int) < (a.length : Int) := by omega
                  have hcq := (hown.after hbq).cell (i := q) (by rw [List.length_map]; omega)
                  rw [tx_getD _ (by omega)] at hcq
                  have hfl := firstL_length (fun i => (l.getD i ⟨#[]⟩).extract a.length (l.getD i ⟨#[]⟩).size) q
                  have hnx := Lib.hid (firstL_succ (fun i => (l.getD i ⟨#[]⟩).extract a.length (l.getD i ⟨#[]⟩).size) q)
                  have hsq := hsl.out q hlq
                  have hsl2 := fun W => slice_from_run (P := Tryz.prog) Tryz.underlying9 (l.getD q ⟨#[]⟩) (a.length : Int) a.length rfl (by omega) W
                  obtain ⟨v', w', hap, hown4, hb4⟩ := Own.push (P := Tryz.prog) (T := 39) Tryz.underlying39 hi hz0 hz1 hz2 rfl ho (.string ((l.getD q ⟨#[]⟩).extract a.length (l.getD q ⟨#[]⟩).size)) rfl hbq.size (by rw [List.length_map, hfl]; omega) (by rw [List.length_map, hfl]; omega)
                  clear hsq
                  generalize l.getD q ⟨#[]⟩ = rq at *
                  go_wp2_with (at_builtin; refine wpList_append_run hap _ _ rfl rfl rfl rfl rfl ?_)
                  go_roundw
                  case rel => exact ⟨q + 1, by omega, by go_num, by rw [hnx.out]; exact hown4, hbq.trans hb4⟩
                  case measure => simp [RowKit.intOf]; omega
                · have e : q = a.length := by omega
                  subst e
                  go_wp2
                  go_ret2
                  refine ⟨u, by rw [invE, if_pos hz.out, hgs'.out]; rfl, ?_, below_c bw2 (hbel.trans (hbq.mono hbel.size))⟩
                  rw [invL, if_pos hz.out, hgs'.out]
                  rw [show firstL (fun i => (l.getD i ⟨#[]⟩).extract a.length (l.getD i ⟨#[]⟩).size) a.length = halfL a.length l by
                    apply List.ext_getElem
                    · rw [firstL_length, halfL, List.length_map, hll]
                    · intro i h1 h2
                      rw [firstL_length] at h1
                      simp [firstL, halfL, List.getD_eq_getElem?_getD, show i < l.length by omega]] at ho
                  exact ho.mono (below_c bw2 hbel).size
end Go.Proofs.YtjgafpkpoppcbaaGreatDoor
end
