/- The calls of crc, walked. -/
import Derived.Test.YtdbjfofnkijmoaaDoorRows
import Derived.Test.YtdbjfofnkijmoaaDoorCrcMath
import Derived.Tactics
import Derived.Tactics2
import Derived.WalkKit
import Derived.LoopTactic
import Derived.ChangeAlike
import Derived.RegionTactic
import Derived.Outline
import Derived.Lib.Hide
import Derived.Below
import Derived.Laws.AppendOwn
import Derived.OwnWalk
import Derived.Laws.IdiomStrings
namespace Go.Proofs.YtdbjfofnkijmoaaDoor
open Go.RowKit
set_option linter.unusedVariables false
set_option linter.unusedSimpArgs false

theorem xor32 (a b : Nat) (h1 : a < 4294967296) (h2 : b < 4294967296) : bits .xor .u32 (a : Int) (b : Int) = ((a ^^^ b : Nat) : Int) := by
  have hl := Crc.xor_lt h1 h2
  have e : (BitVec.ofNat 32 a ^^^ BitVec.ofNat 32 b).toNat = a ^^^ b := by
    rw [BitVec.toNat_xor, BitVec.toNat_ofNat, BitVec.toNat_ofNat, Nat.mod_eq_of_lt (by omega), Nat.mod_eq_of_lt (by omega)]
  have e2 : bits .xor .u32 (a : Int) (b : Int) = IntKind.u32.wrap (((BitVec.ofNat 32 a ^^^ BitVec.ofNat 32 b).toNat : Nat) : Int) := by
    have ea : BitVec.ofInt 32 (a : Int) = BitVec.ofNat 32 a := BitVec.ofInt_natCast 32 a
    have eb : BitVec.ofInt 32 (b : Int) = BitVec.ofNat 32 b := BitVec.ofInt_natCast 32 b
    rw [← ea, ← eb]; rfl
  rw [e2, e, IntKind.wrap_u32]
  omega
theorem and32 (a : Nat) (h1 : a < 4294967296) : bits .and .u32 (a : Int) 1 = ((a % 2 : Nat) : Int) := by
  have e : (BitVec.ofNat 32 a &&& BitVec.ofNat 32 1).toNat = a % 2 := by
    rw [BitVec.toNat_and, BitVec.toNat_ofNat, BitVec.toNat_ofNat, Nat.mod_eq_of_lt (by omega : a < 2 ^ 32)]
    exact Nat.and_one_is_mod a
  have e2 : bits .and .u32 (a : Int) 1 = IntKind.u32.wrap (((BitVec.ofNat 32 a &&& BitVec.ofNat 32 1).toNat : Nat) : Int) := by
    have ea : BitVec.ofInt 32 (a : Int) = BitVec.ofNat 32 a := BitVec.ofInt_natCast 32 a
    have eb : BitVec.ofInt 32 (1 : Int) = BitVec.ofNat 32 1 := BitVec.ofInt_natCast 32 1
    rw [← ea, ← eb]; rfl
  rw [e2, e, IntKind.wrap_u32]
  omega

theorem step_even (s : Nat) (w : World) (h : s < 4294967296) (hz : s % 2 = 0) :
    Calls Tryd.prog 62 #[.int .u32 (s : Int)] w fun e w' => e = .returned (.int .u32 ((Crc.step s : Nat) : Int)) ∧ w = w' := by
  have ha := and32 s h
  rw [hz] at ha
  have hx : bits .xor .u32 ((s : Int) / 2) 0 = ((Crc.step s : Nat) : Int) := by
    have := xor32 (s / 2) 0 (by omega) (by decide)
    rw [show Crc.step s = s / 2 ^^^ 0 by unfold Crc.step; rw [if_neg (by omega)], ← this]
    rfl
  clear hz
  go_enter Tryd.func62, Tryd.ntmps62
  go_wp2
  go_ret
  exact ⟨rfl, rfl⟩
theorem step_odd (s : Nat) (w : World) (h : s < 4294967296) (hz : s % 2 = 1) :
    Calls Tryd.prog 62 #[.int .u32 (s : Int)] w fun e w' => e = .returned (.int .u32 ((Crc.step s : Nat) : Int)) ∧ w = w' := by
  have ha := and32 s h
  rw [hz] at ha
  have hx : bits .xor .u32 ((s : Int) / 2) 2197175160 = ((Crc.step s : Nat) : Int) := by
    have := xor32 (s / 2) 2197175160 (by omega) (by decide)
    rw [show Crc.step s = s / 2 ^^^ 2197175160 by unfold Crc.step; rw [if_pos hz], ← this]
    rfl
  clear hz
  go_enter Tryd.func62, Tryd.ntmps62
  go_wp2
  go_ret
  exact ⟨rfl, rfl⟩
theorem step_nat (s : Nat) (w : World) (h : s < 4294967296) :
    Calls Tryd.prog 62 #[.int .u32 (s : Int)] w fun e w' => e = .returned (.int .u32 ((Crc.step s : Nat) : Int)) ∧ w = w' := by
  rcases Nat.mod_two_eq_zero_or_one s with hz | hz
  · exact step_even s w h hz
  · exact step_odd s w h hz

theorem byte_get (s : ByteArray) (k : Nat) (h : k < s.size) : s[k] = s.data.toList.getD k 0 := by
  rw [List.getD_eq_getElem?_getD, List.getElem?_eq_getElem (by simpa using h)]
  rfl
theorem take_snoc (s : ByteArray) (k : Nat) (h : k < s.size) : s.data.toList.take (k + 1) = s.data.toList.take k ++ [s[k]] := by
  rw [List.take_succ_eq_append_getElem (by simpa using h)]; rfl
set_option maxRecDepth 100000 in
set_option maxHeartbeats 1000000 in
theorem go_nat (n : Nat) (s : ByteArray) (w : World) (h : n < 4294967296) (hs : s.size ≤ maxLen) :
    Calls Tryd.prog 43 #[.int .u32 (n : Int), .string s] w fun e w' => e = .returned (.int .u32 ((Crc.go n s.data.toList : Nat) : Int)) ∧ w = w' := by
  unfold maxLen at hs
  go_enter Tryd.func43, Tryd.ntmps43
  go_wp2
  go_loop [0, 8] (fun st i => ∃ k q : Nat, k ≤ s.size ∧ i = .int .i64 (k : Int) ∧ q < 4294967296 ∧ q = Crc.go n (s.data.toList.take k) ∧ st = .int .u32 (q : Int)) (fun _ i => s.size - (intOf i).toNat)
  case atStart => exact ⟨0, n, by omega, rfl, h, rfl, rfl⟩
  case round =>
    obtain ⟨k, q, hk, rfl, hq, hqe, rfl⟩ := hrel
    have HQ := Lib.hid hqe
    clear hqe
    by_cases hlt : k < s.size
    · have b1 : (0 : Int) ≤ (k : Int) := by omega
      have b2 : (k : Int) < (s.size : Int) := by omega
      have c1 := UInt8.toNat_lt s[k]
      have hx := xor32 q (s[k]).toNat hq (by omega)
      have hxl := Crc.xor_lt (y := (s[k]).toNat) hq (by omega)
      have hnx : Hid (Crc.steps 8 (q ^^^ (s[k]).toNat) = Crc.go n (s.data.toList.take (k + 1))) := Lib.hid (by
        rw [take_snoc s k hlt, Crc.go_snoc, ← HQ.out]; rfl)
      generalize q ^^^ (s[k]).toNat = x at hx hxl hnx
      go_wp2
      go_loop [0, 17] (fun st j => ∃ m y : Nat, m ≤ 8 ∧ j = .int .i64 (m : Int) ∧ y < 4294967296 ∧ y = Crc.steps m x ∧ st = .int .u32 (y : Int)) (fun _ j => 8 - (intOf j).toNat)
      case atStart => exact ⟨0, x, by omega, rfl, hxl, rfl, rfl⟩
      case round =>
        obtain ⟨m, y, hm, rfl, hy, hye, rfl⟩ := hrel
        have HY := Lib.hid hye
        clear hye
        by_cases hm8 : m < 8
        · have hyl := Crc.step_lt hy
          go_wp2_with (go_at_call 62; refine (step_nat _ _ (by assumption)).mono ?_; rintro e w' ⟨rfl, rfl⟩)
          go_round
          case rel => exact ⟨m + 1, _, by omega, by go_num, hyl, by rw [Crc.steps_succ, HY.out], rfl⟩
          case measure => simp [intOf]; omega
        · obtain rfl : m = 8 := by omega
          go_wp2
          go_round
          case rel => exact ⟨k + 1, y, by omega, by go_num, hy, by rw [← hnx.out, HY.out], rfl⟩
          case measure => simp [intOf]; omega
    · obtain rfl : k = s.size := by omega
      go_wp2
      go_ret
      exact ⟨by rw [show Crc.go n s.data.toList = q by rw [HQ.out, List.take_of_length_le (by simp)]]; rfl, rfl⟩
theorem go_any (n : Int) (s : ByteArray) (w : World) (h0 : 0 ≤ n) (h : n < 4294967296) (hs : s.size ≤ maxLen) :
    Calls Tryd.prog 43 #[.int .u32 n, .string s] w fun e w' => e = .returned (.int .u32 ((Crc.go n.toNat s.data.toList : Nat) : Int)) ∧ w = w' := by
  obtain ⟨n, rfl⟩ := Int.eq_ofNat_of_zero_le h0
  exact go_nat n s w (by omega) hs
theorem begin_any (w : World) : Calls Tryd.prog 42 #[] w fun e w' => e = .returned (.int .u32 4294967295) ∧ w = w' := by
  go_enter Tryd.func42, Tryd.ntmps42
  go_wp2
  go_ret
  exact ⟨rfl, rfl⟩
theorem end_nat (n : Nat) (w : World) (h : n < 4294967296) :
    Calls Tryd.prog 44 #[.int .u32 (n : Int)] w fun e w' => e = .returned (.int .u32 ((Crc.fin n : Nat) : Int)) ∧ w = w' := by
  have hx : bits .xor .u32 IntKind.u32.max (n : Int) = ((Crc.fin n : Nat) : Int) := by
    have := xor32 4294967295 n (by decide) h
    rw [Nat.xor_comm] at this
    exact this
  go_enter Tryd.func44, Tryd.ntmps44
  go_wp2
  go_ret
  exact ⟨rfl, rfl⟩
theorem end_any (n : Int) (w : World) (h0 : 0 ≤ n) (h : n < 4294967296) :
    Calls Tryd.prog 44 #[.int .u32 n] w fun e w' => e = .returned (.int .u32 ((Crc.fin n.toNat : Nat) : Int)) ∧ w = w' := by
  obtain ⟨n, rfl⟩ := Int.eq_ofNat_of_zero_le h0
  exact end_nat n w (by omega)
end Go.Proofs.YtdbjfofnkijmoaaDoor
