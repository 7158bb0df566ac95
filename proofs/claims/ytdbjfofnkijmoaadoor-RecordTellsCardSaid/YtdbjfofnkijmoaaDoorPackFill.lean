/- pack: texts that are filled; the document's own numbers and texts. -/
import Derived.Test.YtdbjfofnkijmoaaDoorPackNum
import Derived.Test.YtdbjfofnkijmoaaDoorShelf
import Derived.Lib.Repeat
namespace Go.Proofs.YtdbjfofnkijmoaaDoor
open Go.RowKit
set_option linter.unusedVariables false
set_option linter.unusedSimpArgs false

theorem repeat_nought (n : Nat) : (⟨(Lib.repeatL [0] n).toArray⟩ : ByteArray) = lineOf (List.replicate n 0) := by
  have := Lib.repeatL_replicate 0 1 n
  simp only [List.replicate_one, Nat.mul_one] at this
  rw [this]; rfl
theorem line_append (s : ByteArray) (l : List UInt8) : s ++ lineOf l = lineOf (s.data.toList ++ l) := by
  apply ByteArray.ext
  simp [lineOf, ByteArray.data_append]
def fillOk (s : ByteArray) (long : Int) : Bool := decide (0 ≤ long ∧ long ≤ 4096 ∧ (s.size : Int) ≤ long)
def padB (s : ByteArray) (n : Nat) : ByteArray := lineOf (Pk.padL s.data.toList n)
def fillL (s : ByteArray) (long : Int) : ByteArray := if fillOk s long then padB s long.toNat else ⟨#[]⟩
def fillE (s : ByteArray) (long : Int) : Int := if fillOk s long then 0 else 50
theorem fill_bad (w : World) (s : ByteArray) (long : Int) (h : Hid (fillOk s long = false)) (W : World) (hb : Below w.heap.size w W) : Tells2 w (fillL s long) (fillE s long) (.returned (.tuple #[.string ⟨#[]⟩, .int .i64 50])) W :=
  ⟨by rw [fillL, fillE, h.out]; rfl, hb⟩
theorem fill_good (w : World) (s : ByteArray) (n : Nat) (h1 : n ≤ 4096) (h2 : s.size ≤ n) : fillL s (n : Int) = padB s n ∧ fillE s (n : Int) = 0 := by
  have hz : fillOk s (n : Int) = true := by unfold fillOk; rw [decide_eq_true_eq]; omega
  rw [fillL, fillE, hz, if_pos rfl, if_pos rfl, show ((n : Int)).toNat = n by omega]; exact ⟨rfl, rfl⟩
theorem be_take_succ (W n k : Nat) (h : k < W) : (Pk.be W n).take (k + 1) = (Pk.be W n).take k ++ [UInt8.ofNat (n / 256 ^ (W - 1 - k) % 256)] := by
  rw [List.take_succ_eq_append_getElem (by rw [Pk.be_length]; exact h)]
  simp [Pk.be]
/-- One byte as a text. -/
theorem byte_str (W : World) (b : UInt8) (v : Int) (hv : v = ((b.toNat : Nat) : Int)) : (convert 45 9 (.slice (some ⟨W.heap.size, 0, none⟩) 1 1)).run Tryd.prog (W.alloc (.cells #[.int .u8 v] 5)) = .ok (.string (lineOf [b])) (W.alloc (.cells #[.int .u8 v] 5)) := by
  subst hv
  exact BRow.str (l := [b]) ⟨by rw [heap_alloc_new]; rfl⟩ 1 1 rfl
set_option maxRecDepth 100000 in
set_option maxHeartbeats 1000000 in
theorem rnum_right (n W : Nat) (w : World) (h1 : 1 ≤ W) (h2 : W ≤ 7) (h : n < 256 ^ W) :
    Calls Tryd.prog 47 #[.int .i64 (n : Int), .int .i64 (W : Int)] w (Tells2 w (lineOf (Pk.be W n)) 0) := by
  have hpw := fun W' => power_nat W W' h2
  obtain ⟨p1, p2⟩ := pow_wrap h1 h2
  have t0 : decide ((W : Int) < 1) = false := by rw [decide_eq_false_iff_not]; omega
  have t1 : decide (7 < (W : Int)) = false := by rw [decide_eq_false_iff_not]; omega
  have t2 : decide ((n : Int) < 0) = false := by rw [decide_eq_false_iff_not]; omega
  have t3 : decide (((256 ^ W : Nat) : Int) ≤ (n : Int)) = false := by rw [decide_eq_false_iff_not]; omega
  have t3' : decide ((256 ^ W : Nat) ≤ n) = false := by rw [decide_eq_false_iff_not]; omega
  have hn : n < 72057594037927936 := by omega
  clear p1 h
  generalize 256 ^ W = P at *
  have hpw' := Lib.hid hpw
  clear hpw
  go_enter Tryd.func47, Tryd.ntmps47
  go_wp2_with (fail)
  refine (hpw'.out _).mono ?_
  rintro e wq ⟨rfl, rfl⟩
  go_wp2_with (fail)
  go_loopw [6, 7] (fun s i wr => ∃ k : Nat, k ≤ W ∧ i = .int .i64 ((W : Int) - 1 - (k : Int)) ∧ s = .string (lineOf ((Pk.be W n).take k)) ∧ Below w.heap.size w wr) (fun _ i _ => (intOf i + 1).toNat)
  case atStart => exact ⟨0, by omega, by simp, rfl, Below.refl _ _⟩
  case round =>
    obtain ⟨k, hk, rfl, rfl, hb⟩ := hrel
    by_cases hlt : k < W
    · have t4 : decide ((0 : Int) ≤ (W : Int) - 1 - (k : Int)) = true := by rw [decide_eq_true_eq]; omega
      have hx := Lib.hid (be_take_succ W n k hlt)
      have hp := fun W' => power_nat (W - 1 - k) W' (by omega)
      rw [show (((W - 1 - k : Nat)) : Int) = (W : Int) - 1 - (k : Int) by omega] at hp
      have hpos : 1 ≤ 256 ^ (W - 1 - k) := Nat.pow_pos (by decide)
      have hpu : 256 ^ (W - 1 - k) ≤ 256 ^ 6 := Nat.pow_le_pow_right (by decide) (by omega)
      have hpu2 : 256 ^ (W - 1 - k) ≤ 281474976710656 := hpu
      have hsz : (lineOf ((Pk.be W n).take k)).size ≤ 7 := by rw [lineOf_size, List.length_take]; omega
      have hbs := fun W' => byte_str W' (UInt8.ofNat (n / 256 ^ (W - 1 - k) % 256)) ((n : Int) / ((256 ^ (W - 1 - k) : Nat) : Int) % 256) (by rw [Pk.byte_nat, Int.natCast_emod, Int.natCast_ediv]; rfl)
      have hap := Lib.hid (line_append (lineOf ((Pk.be W n).take k)) [UInt8.ofNat (n / 256 ^ (W - 1 - k) % 256)])
      have hs1 : (lineOf [UInt8.ofNat (n / 256 ^ (W - 1 - k) % 256)]).size ≤ 1 := by rw [lineOf_size]; simp
      have hlast : Hid ((lineOf ((Pk.be W n).take k)) ++ lineOf [UInt8.ofNat (n / 256 ^ (W - 1 - k) % 256)] = lineOf ((Pk.be W n).take (k + 1))) := Lib.hid (by rw [hap.out, hx.out, list_lineOf])
      have hp' := Lib.hid hp
      clear hpu hp hx hap
      generalize lineOf [UInt8.ofNat (n / 256 ^ (W - 1 - k) % 256)] = z at *
      generalize lineOf ((Pk.be W n).take k) = q at *
      generalize 256 ^ (W - 1 - k) = d at *
      have q0 : 0 ≤ (n : Int) / (d : Int) := Int.ediv_nonneg (by omega) (by omega)
      have q1 : (n : Int) / (d : Int) ≤ 72057594037927936 := by have := Int.ediv_le_self (d : Int) (show 0 ≤ (n : Int) by omega); omega
      go_wp2_with (fail)
      refine (hp'.out _).mono ?_
      rintro e wq ⟨rfl, rfl⟩
      go_wp2_with (fail)
      go_roundw
      case rel => exact ⟨k + 1, by omega, congrArg (Value.int .i64) (by omega), by rw [hlast.out], hb.alloc (by exact hb.size) _⟩
      case measure => simp [intOf]; omega
    · have e : k = W := by omega
      subst e
      have t4 : decide ((0 : Int) ≤ (k : Int) - 1 - (k : Int)) = false := by rw [decide_eq_false_iff_not]; omega
      rw [List.take_of_length_le (by rw [Pk.be_length]; omega)]
      go_wp2_with (fail)
      go_ret2
      exact ⟨rfl, hb⟩
theorem rnum_any (n width : Int) (w : World) :
    Calls Tryd.prog 47 #[.int .i64 n, .int .i64 width] w (Tells2 w (numL n width) (numE n width)) := by
  by_cases c0 : width < 1
  · have t0 : decide (width < 1) = true := by rw [decide_eq_true_eq]; omega
    have hz : Hid (numB n width = false) := Lib.hid (by unfold numB; rw [decide_eq_false_iff_not]; omega)
    clear c0
    go_enter Tryd.func47, Tryd.ntmps47
    go_wp2
    go_ret2
    exact num_bad w n width hz _ (Below.refl _ _)
  · by_cases c1 : 7 < width
    · have t0 : decide (width < 1) = false := by rw [decide_eq_false_iff_not]; omega
      have t1 : decide (7 < width) = true := by rw [decide_eq_true_eq]; omega
      have hz : Hid (numB n width = false) := Lib.hid (by unfold numB; rw [decide_eq_false_iff_not]; omega)
      clear c0 c1
      go_enter Tryd.func47, Tryd.ntmps47
      go_wp2
      go_ret2
      exact num_bad w n width hz _ (Below.refl _ _)
    · obtain ⟨W, rfl⟩ := Int.eq_ofNat_of_zero_le (show 0 ≤ width by omega)
      by_cases c2 : n < 0
      · have t0 : decide ((W : Int) < 1) = false := by rw [decide_eq_false_iff_not]; omega
        have t1 : decide (7 < (W : Int)) = false := by rw [decide_eq_false_iff_not]; omega
        have t2 : decide (n < 0) = true := by rw [decide_eq_true_eq]; omega
        have hz : Hid (numB n W = false) := Lib.hid (by unfold numB; rw [decide_eq_false_iff_not]; omega)
        clear c0 c1 c2
        go_enter Tryd.func47, Tryd.ntmps47
        go_wp2
        go_ret2
        exact num_bad w n W hz _ (Below.refl _ _)
      · obtain ⟨N, rfl⟩ := Int.eq_ofNat_of_zero_le (show 0 ≤ n by omega)
        by_cases c3 : N < 256 ^ W
        · have hb : numB (N : Int) (W : Int) = true := by unfold numB; rw [decide_eq_true_eq]; exact ⟨by omega, by omega, by omega, by simpa using c3⟩
          rw [numL, numE, hb, if_pos rfl, if_pos rfl, show ((W : Int)).toNat = W by omega, show ((N : Int)).toNat = N by omega]
          exact rnum_right N W w (by omega) (by omega) c3
        · obtain ⟨p1, p2⟩ := pow_wrap (W := W) (by omega) (by omega)
          have t0 : decide ((W : Int) < 1) = false := by rw [decide_eq_false_iff_not]; omega
          have t1 : decide (7 < (W : Int)) = false := by rw [decide_eq_false_iff_not]; omega
          have t2 : decide ((N : Int) < 0) = false := by rw [decide_eq_false_iff_not]; omega
          have t3 : decide (((256 ^ W : Nat) : Int) ≤ (N : Int)) = true := by rw [decide_eq_true_eq]; omega
          have t3' : decide ((256 ^ W : Nat) ≤ N) = true := by rw [decide_eq_true_eq]; omega
          have hz : Hid (numB (N : Int) W = false) := Lib.hid (by
            unfold numB; rw [decide_eq_false_iff_not]
            rintro ⟨_, _, _, h⟩
            exact c3 (by simpa using h))
          have b0 : 1 ≤ (W : Int) := by omega
          have b1 : (W : Int) ≤ 7 := by omega
          have hpw := fun W' => power_nat W W' (by omega)
          clear c0 c1 c2 c3 p1
          generalize 256 ^ W = P at *
          have hpw' := Lib.hid hpw
          clear hpw
          go_enter Tryd.func47, Tryd.ntmps47
          go_wp2_with (fail)
          refine (hpw'.out _).mono ?_
          rintro e wq ⟨rfl, rfl⟩
          go_wp2_with (fail)
          go_ret2
          exact num_bad w N W hz _ (Below.refl _ _)
end Go.Proofs.YtdbjfofnkijmoaaDoor
