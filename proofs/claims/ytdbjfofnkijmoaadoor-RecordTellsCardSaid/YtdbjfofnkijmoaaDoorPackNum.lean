/- pack: numbers. -/
import Derived.Test.YtdbjfofnkijmoaaDoorBytes
import Derived.Test.YtdbjfofnkijmoaaDoorCls
import Derived.Test.YtdbjfofnkijmoaaDoorPackMath
import Derived.Tactics
import Derived.Tactics2
import Derived.LoopTactic
import Derived.RegionTactic
import Derived.Outline
namespace Go.Proofs.YtdbjfofnkijmoaaDoor
open Go.RowKit
set_option linter.unusedVariables false
set_option linter.unusedSimpArgs false

def numB (n width : Int) : Bool := decide (1 ≤ width ∧ width ≤ 7 ∧ 0 ≤ n ∧ n.toNat < 256 ^ width.toNat)
def numL (n width : Int) : ByteArray := if numB n width then lineOf (Pk.be width.toNat n.toNat) else ⟨#[]⟩
def numE (n width : Int) : Int := if numB n width then 0 else 50
/-- A text and an error's number. -/
def Tells2 (w : World) (s : ByteArray) (n : Int) (e : Ending) (w' : World) : Prop := e = .returned (.tuple #[.string s, .int .i64 n]) ∧ Below w.heap.size w w'
theorem num_bad (w : World) (n width : Int) (h : Hid (numB n width = false)) (W : World) (hb : Below w.heap.size w W) : Tells2 w (numL n width) (numE n width) (.returned (.tuple #[.string ⟨#[]⟩, .int .i64 50])) W :=
  ⟨by rw [numL, numE, h.out]; rfl, hb⟩
/-- The bytes behind k rounds. -/
def beTo (w n k : Nat) : List UInt8 := (List.range w).map fun j => if w - k ≤ j then UInt8.ofNat (n / 256 ^ (w - 1 - j) % 256) else 0
theorem beTo_length (w n k : Nat) : (beTo w n k).length = w := by simp [beTo]
theorem beTo_zero (w n : Nat) : beTo w n 0 = List.replicate w 0 := by
  apply List.ext_getElem (by simp [beTo])
  intro j h1 h2
  rw [beTo_length] at h1
  simp only [beTo, List.getElem_map, List.getElem_range, List.getElem_replicate]
  rw [if_neg (by omega)]
theorem beTo_all (w n : Nat) : beTo w n w = Pk.be w n := by
  unfold beTo Pk.be
  apply List.map_congr_left
  intro j _
  rw [if_pos (by omega)]
theorem beTo_succ (w n k : Nat) (h : k < w) : beTo w n (k + 1) = (beTo w n k).set (w - 1 - k) (UInt8.ofNat (n / 256 ^ k % 256)) := by
  apply List.ext_getElem (by simp [beTo])
  intro j h1 h2
  rw [beTo_length] at h1
  rw [List.getElem_set]
  simp only [beTo, List.getElem_map, List.getElem_range]
  by_cases e : w - 1 - k = j
  · rw [if_pos e, if_pos (by omega), show w - 1 - j = k by omega]
  · rw [if_neg e]
    by_cases e2 : w - k ≤ j
    · rw [if_pos (by omega), if_pos e2]
    · rw [if_neg (by omega), if_neg e2]
theorem pow_wrap {W : Nat} (h1 : 1 ≤ W) (h2 : W ≤ 7) : wrap64 ((2 : Int) ^ (8 * W)) = ((256 ^ W : Nat) : Int) ∧ (256 ^ W : Nat) ≤ 72057594037927936 := by
  have : W = 1 ∨ W = 2 ∨ W = 3 ∨ W = 4 ∨ W = 5 ∨ W = 6 ∨ W = 7 := by omega
  rcases this with rfl | rfl | rfl | rfl | rfl | rfl | rfl <;> decide +kernel
theorem shr_byte (n k : Nat) : (n : Int) / 2 ^ (8 * k) % 256 = (((UInt8.ofNat (n / 256 ^ k % 256)).toNat : Nat) : Int) := by
  have e : (2 : Int) ^ (8 * k) = ((256 ^ k : Nat) : Int) := by rw [Int.pow_mul]; exact (Int.natCast_pow 256 k).symm
  rw [Pk.byte_nat, e, Int.natCast_emod, Int.natCast_ediv]
  rfl
set_option maxRecDepth 100000 in
set_option maxHeartbeats 1000000 in
theorem num_right (n W : Nat) (w : World) (h1 : 1 ≤ W) (h2 : W ≤ 7) (h : n < 256 ^ W) :
    Calls Tryd.prog 41 #[.int .i64 (n : Int), .int .i64 (W : Int)] w (Tells2 w (lineOf (Pk.be W n)) 0) := by
  obtain ⟨w1, hmk, r0, b0, s0⟩ := BRow.make_run w W (by omega)
  obtain ⟨p1, p2⟩ := pow_wrap h1 h2
  have t0 : decide ((W : Int) < 1) = false := by rw [decide_eq_false_iff_not]; omega
  have t1 : decide (7 < (W : Int)) = false := by rw [decide_eq_false_iff_not]; omega
  have t2 : decide ((n : Int) < 0) = false := by rw [decide_eq_false_iff_not]; omega
  have t3 : decide (wrap64 ((2 : Int) ^ (8 * W)) ≤ (n : Int)) = false := by rw [decide_eq_false_iff_not, p1]; omega
  have hn : n < 72057594037927936 := by omega
  have s0' := Lib.hid s0
  clear p1 p2 h s0
  go_enter Tryd.func41, Tryd.ntmps41
  go_wp2
  go_loopw [28] (fun i wr => ∃ k : Nat, k ≤ W ∧ i = .int .i64 (k : Int) ∧ BRow wr w.heap.size (beTo W n k) ∧ Below w.heap.size w wr) (fun i _ => W - (intOf i).toNat)
  case atStart => exact ⟨0, by omega, rfl, by rw [beTo_zero]; exact r0, b0⟩
  case round =>
    obtain ⟨k, hk, rfl, hr, hb⟩ := hrel
    have hlen := beTo_length W n k
    by_cases hlt : k < W
    · have b1 : (k : Int) < (W : Int) := by omega
      have hx := Lib.hid (beTo_succ W n k hlt)
      have hfr := hr.frozen (W - 1 - k)
      have hce := hr.cell (i := W - 1 - k) (by omega)
      go_wp2
      go_roundw
      case rel => exact ⟨k + 1, by omega, by go_num, by rw [hx.out]; exact hr.set (by omega) _ _ (shr_byte n k), hb.setCell (p := ⟨w.heap.size, _, none⟩) (Nat.le_refl _) _⟩
      case measure => simp [intOf]; omega
    · have e : k = W := by omega
      subst e
      rw [beTo_all] at hr
      have hst := hr.str k k (by rw [Pk.be_length])
      go_wp2
      go_ret2
      exact ⟨rfl, hb⟩
theorem num_any (n width : Int) (w : World) :
    Calls Tryd.prog 41 #[.int .i64 n, .int .i64 width] w (Tells2 w (numL n width) (numE n width)) := by
  by_cases c0 : width < 1
  · have t0 : decide (width < 1) = true := by rw [decide_eq_true_eq]; omega
    have hz : Hid (numB n width = false) := Lib.hid (by unfold numB; rw [decide_eq_false_iff_not]; omega)
    clear c0
    go_enter Tryd.func41, Tryd.ntmps41
    go_wp2
    go_ret2
    exact num_bad w n width hz _ (Below.refl _ _)
  · by_cases c1 : 7 < width
    · have t0 : decide (width < 1) = false := by rw [decide_eq_false_iff_not]; omega
      have t1 : decide (7 < width) = true := by rw [decide_eq_true_eq]; omega
      have hz : Hid (numB n width = false) := Lib.hid (by unfold numB; rw [decide_eq_false_iff_not]; omega)
      clear c0 c1
      go_enter Tryd.func41, Tryd.ntmps41
      go_wp2
      go_ret2
      exact num_bad w n width hz _ (Below.refl _ _)
    · obtain ⟨W, rfl⟩ := Int.eq_ofNat_of_zero_le (show 0 ≤ width by omega)
      by_cases c2 : n < 0
      · have t0 : decide ((W : Int) < 1) = false := by rw [decide_eq_false_iff_not]; omega
        have t1 : decide (7 < (W : Int)) = false := by rw [decide_eq_false_iff_not]; omega
        have t2 : decide (n < 0) = true := by rw [decide_eq_true_eq]; omega
        have hz : Hid (numB n W = false) := Lib.hid (by unfold numB; rw [decide_eq_false_iff_not]; omega)
        clear c0 c1 c2
        go_enter Tryd.func41, Tryd.ntmps41
        go_wp2
        go_ret2
        exact num_bad w n W hz _ (Below.refl _ _)
      · obtain ⟨N, rfl⟩ := Int.eq_ofNat_of_zero_le (show 0 ≤ n by omega)
        by_cases c3 : N < 256 ^ W
        · have hb : numB (N : Int) (W : Int) = true := by unfold numB; rw [decide_eq_true_eq]; exact ⟨by omega, by omega, by omega, by simpa using c3⟩
          rw [numL, numE, hb, if_pos rfl, if_pos rfl, show ((W : Int)).toNat = W by omega, show ((N : Int)).toNat = N by omega]
          exact num_right N W w (by omega) (by omega) c3
        · obtain ⟨p1, p2⟩ := pow_wrap (W := W) (by omega) (by omega)
          have t0 : decide ((W : Int) < 1) = false := by rw [decide_eq_false_iff_not]; omega
          have t1 : decide (7 < (W : Int)) = false := by rw [decide_eq_false_iff_not]; omega
          have t2 : decide ((N : Int) < 0) = false := by rw [decide_eq_false_iff_not]; omega
          have t3 : decide (wrap64 ((2 : Int) ^ (8 * W)) ≤ (N : Int)) = true := by rw [decide_eq_true_eq, p1]; omega
          have hz : Hid (numB (N : Int) W = false) := Lib.hid (by
            unfold numB; rw [decide_eq_false_iff_not]
            rintro ⟨_, _, _, h⟩
            exact c3 (by simpa using h))
          have b0 : 1 ≤ (W : Int) := by omega
          have b1 : (W : Int) ≤ 7 := by omega
          clear c0 c1 c2 c3 p1 p2
          go_enter Tryd.func41, Tryd.ntmps41
          go_wp2
          go_ret2
          exact num_bad w N W hz _ (Below.refl _ _)
set_option maxHeartbeats 1000000 in
theorem power_nat (n : Nat) (w : World) (h : n ≤ 7) : Calls Tryd.prog 63 #[.int .i64 (n : Int)] w fun e w' => e = .returned (.int .i64 ((256 ^ n : Nat) : Int)) ∧ w = w' := by
  go_enter Tryd.func63, Tryd.ntmps63
  go_wp2
  go_loop [3, 4] (fun p i => ∃ k : Nat, k ≤ n ∧ i = .int .i64 (k : Int) ∧ p = .int .i64 ((256 ^ k : Nat) : Int)) (fun _ i => n - (intOf i).toNat)
  case atStart => exact ⟨0, by omega, rfl, rfl⟩
  case round =>
    obtain ⟨k, hk, rfl, rfl⟩ := hrel
    by_cases hlt : k < n
    · have b1 : (k : Int) < (n : Int) := by omega
      have hp : 256 ^ k ≤ 256 ^ 6 := Nat.pow_le_pow_right (by decide) (by omega)
      have hs : Hid (256 ^ (k + 1) = 256 * 256 ^ k) := Lib.hid (by rw [Nat.pow_succ, Nat.mul_comm])
      have hp2 : 256 ^ k ≤ 281474976710656 := hp
      clear hp
      generalize 256 ^ k = q at *
      go_wp2
      go_round
      case rel => exact ⟨k + 1, by omega, by go_num, congrArg (Value.int .i64) (by rw [hs.out]; omega)⟩
      case measure => simp [intOf]; omega
    · have e : k = n := by omega
      subst e
      go_wp2
      go_ret
      exact ⟨rfl, (by first | rfl | trivial)⟩
end Go.Proofs.YtdbjfofnkijmoaaDoor
