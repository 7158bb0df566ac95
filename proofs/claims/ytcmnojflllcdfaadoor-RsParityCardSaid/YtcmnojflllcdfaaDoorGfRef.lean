/- The document's own arithmetic, walked: each call answers as the tables do. -/
import Derived.Test.YtcmnojflllcdfaaDoorGfTab
namespace Go.Proofs.YtcmnojflllcdfaaDoor
open Go.RowKit
set_option linter.unusedVariables false
set_option linter.unusedSimpArgs false

theorem xor64 (a b : Nat) (h1 : a < 1024) (h2 : b < 1024) : bits .xor .i64 (a : Int) (b : Int) = ((a ^^^ b : Nat) : Int) := by
  have hl : a ^^^ b < 1024 := Nat.xor_lt_two_pow (n := 10) h1 h2
  have e : (BitVec.ofNat 64 a ^^^ BitVec.ofNat 64 b).toNat = a ^^^ b := by
    rw [BitVec.toNat_xor, BitVec.toNat_ofNat, BitVec.toNat_ofNat, Nat.mod_eq_of_lt (by omega), Nat.mod_eq_of_lt (by omega)]
  have e2 : bits .xor .i64 (a : Int) (b : Int) = IntKind.i64.wrap (((BitVec.ofNat 64 a ^^^ BitVec.ofNat 64 b).toNat : Nat) : Int) := by
    have ea : BitVec.ofInt 64 (a : Int) = BitVec.ofNat 64 a := BitVec.ofInt_natCast 64 a
    have eb : BitVec.ofInt 64 (b : Int) = BitVec.ofNat 64 b := BitVec.ofInt_natCast 64 b
    rw [← ea, ← eb]; rfl
  rw [e2, e]
  exact IntWalk.i64_in _ ⟨by omega, by omega⟩
theorem xor64_285 (a : Nat) (h1 : a < 1024) : bits .xor .i64 (a : Int) 285 = ((a ^^^ 285 : Nat) : Int) := xor64 a 285 h1 (by decide)

def RMulRel (a b : Nat) (x y p i : Value) : Prop :=
  ∃ k X Y Z : Nat, k ≤ 8 ∧ X < 256 ∧ Y < 256 ∧ Z < 256 ∧ i = .int .i64 (k : Int) ∧ x = .int .i64 (X : Int) ∧ y = .int .i64 (Y : Int) ∧ p = .int .i64 (Z : Int) ∧
    X = Gf.gm a (Gf.pw k) ∧ Y = b / 2 ^ k ∧ Z = Gf.part a b k
set_option maxHeartbeats 1000000 in
set_option maxRecDepth 100000 in
theorem rmul_nat (a b : Nat) (w : World) (ha : a < 256) (hb : b < 256) :
    Calls Tryd.prog 38 #[.int .u8 (a : Int), .int .u8 (b : Int)] w fun e w' => e = .returned (.int .u8 ((Gf.gm a b : Nat) : Int)) ∧ w = w' := by
  go_enter Tryd.func38, Tryd.ntmps38
  go_wp2
  go_loop [5, 6, 7, 8] (fun x y p i => RMulRel a b x y p i) (fun _ _ _ i => (8 - intOf i).toNat)
  case atStart => exact ⟨0, a, b, 0, by omega, ha, hb, by omega, rfl, rfl, rfl, rfl, by rw [show Gf.pw 0 = 1 by decide +kernel, Gf.gm_one ha], by simp, (Gf.part_zero _ _).symm⟩
  case round =>
    obtain ⟨k, X, Y, Z, hk, hX, hY, hZ, rfl, rfl, rfl, rfl, eX, eY, eZ⟩ := hrel
    by_cases hlt : k < 8
    · have hXn : Gf.xt X = Gf.gm a (Gf.pw (k + 1)) := by rw [Gf.gm_pw_succ (by omega), ← eX]
      have hXl : Gf.xt X < 256 := by rw [hXn]; exact Gf.gm_lt _ _
      have hYn : Y / 2 = b / 2 ^ (k + 1) := by rw [eY, Nat.div_div_eq_div_mul, Nat.pow_succ]
      have hZn : Gf.part a b (k + 1) = if Y % 2 = 1 then Z ^^^ X else Z := by rw [Gf.part_succ ha hlt, ← eX, ← eY, ← eZ]
      have hzx := xor64 Z X (by omega) (by omega)
      have hx285 := xor64_285 (2 * X) (by omega)
      rw [show ((2 * X : Nat) : Int) = 2 * (X : Int) by omega] at hx285
      have hZX : Z ^^^ X < 256 := Gf.xor_lt hZ hX
      have hXL := Lib.hid hXl
      have E := Lib.hid (show _ ∧ _ ∧ _ from ⟨hXn, hYn, hZn⟩)
      clear hXn hYn hZn eX eY eZ hXl
      by_cases h1 : Y % 2 = 1
      · have t1 : ((Y : Int) % 2 == 1) = true := by simp; omega
        by_cases h2 : X < 128
        · have hxt : Hid (Gf.xt X = 2 * X) := Lib.hid (by unfold Gf.xt; rw [if_pos h2])
          have HE := Lib.hid h1
          clear h1
          go_wp2
          go_round
          case rel =>
            obtain ⟨e1, e2, e3⟩ := E.out
            rw [if_pos HE.out] at e3
            exact ⟨k + 1, Gf.xt X, Y / 2, Z ^^^ X, by omega, hXL.out, by omega, hZX, by go_num, by rw [hxt.out]; go_num, by go_num, by go_num, e1, e2, e3.symm⟩
          case measure => simp [intOf]; omega
        · have hxt : Hid (Gf.xt X = 2 * X ^^^ 285) := Lib.hid (by unfold Gf.xt; rw [if_neg h2])
          have HE := Lib.hid h1
          clear h1
          go_wp2
          go_round
          case rel =>
            obtain ⟨e1, e2, e3⟩ := E.out
            rw [if_pos HE.out] at e3
            exact ⟨k + 1, Gf.xt X, Y / 2, Z ^^^ X, by omega, hXL.out, by omega, hZX, by go_num, by rw [hxt.out], by go_num, by go_num, e1, e2, e3.symm⟩
          case measure => simp [intOf]; omega
      · have t1 : ((Y : Int) % 2 == 1) = false := by simp; omega
        by_cases h2 : X < 128
        · have hxt : Hid (Gf.xt X = 2 * X) := Lib.hid (by unfold Gf.xt; rw [if_pos h2])
          have HE := Lib.hid h1
          clear h1
          go_wp2
          go_round
          case rel =>
            obtain ⟨e1, e2, e3⟩ := E.out
            rw [if_neg HE.out] at e3
            exact ⟨k + 1, Gf.xt X, Y / 2, Z, by omega, hXL.out, by omega, hZ, by go_num, by rw [hxt.out]; go_num, by go_num, by go_num, e1, e2, e3.symm⟩
          case measure => simp [intOf]; omega
        · have hxt : Hid (Gf.xt X = 2 * X ^^^ 285) := Lib.hid (by unfold Gf.xt; rw [if_neg h2])
          have HE := Lib.hid h1
          clear h1
          go_wp2
          go_round
          case rel =>
            obtain ⟨e1, e2, e3⟩ := E.out
            rw [if_neg HE.out] at e3
            exact ⟨k + 1, Gf.xt X, Y / 2, Z, by omega, hXL.out, by omega, hZ, by go_num, by rw [hxt.out], by go_num, by go_num, e1, e2, e3.symm⟩
          case measure => simp [intOf]; omega
    · have : k = 8 := by omega
      subst this
      have E := Lib.hid (eZ.trans (Gf.part_eight hb))
      clear eX eY eZ
      go_wp2
      go_ret
      exact ⟨by rw [E.out]; rfl, rfl⟩
theorem rmul_any (a b : Int) (w : World) (h1 : 0 ≤ a) (h2 : a < 256) (h3 : 0 ≤ b) (h4 : b < 256) :
    Calls Tryd.prog 38 #[.int .u8 a, .int .u8 b] w fun e w' => e = .returned (.int .u8 ((Gf.gm a.toNat b.toNat : Nat) : Int)) ∧ w = w' := by
  obtain ⟨a, rfl⟩ := Int.eq_ofNat_of_zero_le h1
  obtain ⟨b, rfl⟩ := Int.eq_ofNat_of_zero_le h3
  exact rmul_nat a b w (by omega) (by omega)
set_option maxRecDepth 100000 in
theorem rinv_zero (a : Int) (w : World) (h : a = 0) :
    Calls Tryd.prog 46 #[.int .u8 a] w fun e w' => e = .returned (.tuple #[.int .u8 0, .int .i64 10]) ∧ w = w' := by
  subst h
  go_enter Tryd.func46, Tryd.ntmps46
  go_wp2
  go_loop [4] (fun i => ∃ k : Nat, 1 ≤ k ∧ k ≤ 256 ∧ i = .int .i64 (k : Int)) (fun i => (256 - intOf i).toNat)
  case atStart => exact ⟨1, by omega, by omega, rfl⟩
  case round =>
    obtain ⟨k, h1, hk, rfl⟩ := hrel
    by_cases hlt : k < 256
    · have hz : ((((Gf.gm (Int.toNat 0) ((k : Int)).toNat : Nat) : Int)) == 1) = false := by rw [show Int.toNat 0 = 0 from rfl, Gf.gm_zero_left]; rfl
      go_wp2_with (go_at_call 38; refine (rmul_any 0 (k : Int) _ (by omega) (by omega) (by omega) (by omega)).mono ?_; rintro e w' ⟨rfl, rfl⟩)
      go_round
      case rel => exact ⟨k + 1, by omega, by omega, by go_num⟩
      case measure => simp [intOf]; omega
    · have : k = 256 := by omega
      subst this
      go_wp2
      go_ret2
      exact ⟨rfl, rfl⟩
theorem gi_ge {a : Nat} : 1 ≤ Gf.gi a := by have := Gf.gi_pos a; omega
set_option maxRecDepth 100000 in
theorem rinv_some (a : Nat) (w : World) (h1 : 1 ≤ a) (h2 : a < 256) :
    Calls Tryd.prog 46 #[.int .u8 (a : Int)] w fun e w' => e = .returned (.tuple #[.int .u8 ((Gf.gi a : Nat) : Int), .int .i64 0]) ∧ w = w' := by
  have hgl := Gf.gi_lt a
  have hgp := gi_ge (a := a)
  go_enter Tryd.func46, Tryd.ntmps46
  go_wp2
  go_loop [4] (fun i => ∃ k : Nat, 1 ≤ k ∧ k ≤ Gf.gi a ∧ i = .int .i64 (k : Int)) (fun i => (256 - intOf i).toNat)
  case atStart => exact ⟨1, by omega, hgp, rfl⟩
  case round =>
    obtain ⟨k, h1k, hk, rfl⟩ := hrel
    have hlt : k < 256 := by omega
    by_cases he : k = Gf.gi a
    · have hz : (((Gf.gm a k : Nat) : Int) == 1) = true := by
        rw [he, Gf.gm_gi (by omega) h2]; rfl
      have HE := Lib.hid he
      clear he
      go_wp2_with (go_at_call 38; refine (rmul_any (a : Int) (k : Int) _ (by omega) (by omega) (by omega) (by omega)).mono ?_; rintro e w' ⟨rfl, rfl⟩)
      go_ret2
      exact ⟨by rw [← HE.out]; rfl, rfl⟩
    · have hz : (((Gf.gm a k : Nat) : Int) == 1) = false := by
        rw [beq_eq_false_iff_ne]
        intro h
        exact he (Gf.gm_cancel (a := a) (by omega) h2 hlt hgl (by rw [Gf.gm_gi (by omega) h2]; omega))
      have hkk : k + 1 ≤ Gf.gi a := by omega
      clear he
      go_wp2_with (go_at_call 38; refine (rmul_any (a : Int) (k : Int) _ (by omega) (by omega) (by omega) (by omega)).mono ?_; rintro e w' ⟨rfl, rfl⟩)
      go_round
      case rel => exact ⟨k + 1, by omega, hkk, by go_num⟩
      case measure => simp [intOf]; omega
theorem rinv_pos (a : Int) (w : World) (h1 : 1 ≤ a) (h2 : a < 256) :
    Calls Tryd.prog 46 #[.int .u8 a] w fun e w' => e = .returned (.tuple #[.int .u8 ((Gf.gi a.toNat : Nat) : Int), .int .i64 0]) ∧ w = w' := by
  obtain ⟨a, rfl⟩ := Int.eq_ofNat_of_zero_le (show 0 ≤ a by omega)
  exact rinv_some a w (by omega) (by omega)
/-- The rest of the document's power: n has been brought to 0 .. 254. -/
theorem pw_next {k : Nat} (h : k + 1 < 255) : Gf.gm (Gf.pw k) 2 = Gf.pw (k + 1) := by rw [Gf.pw_succ k h, Gf.gm_comm]
theorem pw_nought : Gf.pw 0 = 1 := by decide +kernel
theorem mul2_pw (k : Nat) (w : World) (h : k + 1 < 256) :
    Calls Tryd.prog 38 #[.int .u8 ((Gf.pw k : Nat) : Int), .int .u8 2] w fun e w' => e = .returned (.int .u8 ((Gf.gm (Gf.pw k) 2 : Nat) : Int)) ∧ w = w' := by
  have := Gf.pw_lt k
  exact rmul_any ((Gf.pw k : Nat) : Int) 2 w (by omega) (by omega) (by omega) (by omega)
end Go.Proofs.YtcmnojflllcdfaaDoor
