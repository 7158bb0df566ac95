/- Lsec: what this claim reaches of PackMath, PackNum, PackFill and others. -/
import Derived.Test.YtfadglcpapiklaaGreatDoorRows
import Derived.Test.YtfadglcpapiklaaGreatDoorLbase
import Derived.Tactics
import Derived.Tactics2
import Derived.LoopTactic
import Derived.RegionTactic
import Derived.Outline
import Derived.Test.YtfadglcpapiklaaGreatDoorShelf
import Derived.Lib.Repeat
import Derived.WalkKit
import Derived.ChangeAlike
import Derived.Lib.Hide
import Derived.Below
import Derived.Laws.AppendOwn
import Derived.OwnWalk
import Derived.Laws.IdiomStrings
section
namespace Go.Proofs.YtfadglcpapiklaaGreatDoor.Pk
set_option linter.unusedVariables false
set_option linter.unusedSimpArgs false

/-- What bytes are as a number. -/
def val (l : List UInt8) : Nat := l.foldl (fun a b => 256 * a + b.toNat) 0
theorem val_snoc (l : List UInt8) (b : UInt8) : val (l ++ [b]) = 256 * val l + b.toNat := by simp [val, List.foldl_append]
theorem val_acc : ∀ (l : List UInt8) (a : Nat), l.foldl (fun a b => 256 * a + b.toNat) a = a * 256 ^ l.length + val l
  | [], a => by simp [val]
  | b :: l, a => by
    rw [List.foldl_cons, val_acc l, show val (b :: l) = l.foldl (fun a b => 256 * a + b.toNat) (256 * 0 + b.toNat) from rfl, val_acc l, List.length_cons, Nat.pow_succ, Nat.mul_zero, Nat.zero_add, Nat.add_mul, Nat.mul_comm 256 a, Nat.mul_assoc, Nat.mul_comm 256, Nat.add_assoc]
theorem val_cons (b : UInt8) (l : List UInt8) : val (b :: l) = b.toNat * 256 ^ l.length + val l := by
  rw [show val (b :: l) = l.foldl (fun a b => 256 * a + b.toNat) (256 * 0 + b.toNat) from rfl, val_acc, Nat.mul_zero, Nat.zero_add]
theorem val_lt : ∀ l : List UInt8, val l < 256 ^ l.length
  | [] => by simp [val]
  | b :: l => by
    have ih := val_lt l
    have hb : b.toNat < 256 := b.toNat_lt
    rw [val_cons, List.length_cons, Nat.pow_succ]
    have : (b.toNat + 1) * 256 ^ l.length ≤ 256 * 256 ^ l.length := Nat.mul_le_mul_right _ (by omega)
    rw [Nat.add_mul, Nat.one_mul] at this
    rw [Nat.mul_comm (256 ^ l.length) 256]
    omega
/-- A number in w bytes. -/
def be (w n : Nat) : List UInt8 := (List.range w).map fun i => UInt8.ofNat (n / 256 ^ (w - 1 - i) % 256)
theorem be_length (w n : Nat) : (be w n).length = w := by simp [be]
theorem be_cons (w n : Nat) : be (w + 1) n = UInt8.ofNat (n / 256 ^ w % 256) :: be w n := by
  unfold be
  rw [List.range_succ_eq_map, List.map_cons, List.map_map]
  congr 1
  apply List.map_congr_left
  intro i _
  simp only [Function.comp]
  rw [show w + 1 - 1 - i.succ = w - 1 - i by omega]
theorem byte_nat (n : Nat) : (UInt8.ofNat (n % 256)).toNat = n % 256 := by
  rw [UInt8.toNat_ofNat_of_lt' (by show n % 256 < 256; omega)]
theorem val_be : ∀ w n, val (be w n) = n % 256 ^ w
  | 0, n => by simp [be, val, Nat.mod_one]
  | w + 1, n => by
    rw [be_cons, val_cons, be_length, val_be w n, byte_nat, Nat.pow_succ, Nat.mod_mul, Nat.mul_comm (n / 256 ^ w % 256), Nat.add_comm]
theorem be_congr : ∀ w {n m : Nat}, n % 256 ^ w = m % 256 ^ w → be w n = be w m
  | 0, n, m, _ => rfl
  | w + 1, n, m, h => by
    rw [Nat.pow_succ] at h
    rw [be_cons, be_cons, ← Nat.mod_mul_right_div_self, ← Nat.mod_mul_right_div_self, h, be_congr w (n := n) (m := m) (by
      rw [← Nat.mod_mul_right_mod n (256 ^ w) 256, ← Nat.mod_mul_right_mod m (256 ^ w) 256, h])]
theorem be_val : ∀ l : List UInt8, be l.length (val l) = l
  | [] => rfl
  | b :: l => by
    have h := val_lt l
    have hp : 0 < 256 ^ l.length := Nat.pow_pos (by decide)
    rw [List.length_cons, be_cons]
    congr 1
    · rw [val_cons, Nat.mul_comm, Nat.mul_add_div hp, Nat.div_eq_of_lt h, Nat.add_zero, Nat.mod_eq_of_lt b.toNat_lt]
      simp
    · rw [be_congr l.length (m := val l) (by rw [val_cons, Nat.mul_comm, Nat.mul_add_mod]), be_val l]
theorem val_be_lt {w n : Nat} (h : n < 256 ^ w) : val (be w n) = n := by rw [val_be, Nat.mod_eq_of_lt h]
theorem be_inj {w n m : Nat} (hn : n < 256 ^ w) (hm : m < 256 ^ w) (h : be w n = be w m) : n = m := by
  rw [← val_be_lt hn, h, val_be_lt hm]
/-- A text with noughts behind it. -/
def padL (p : List UInt8) (n : Nat) : List UInt8 := p ++ List.replicate (n - p.length) 0
theorem pad_length {p : List UInt8} {n : Nat} (h : p.length ≤ n) : (padL p n).length = n := by simp [padL]; omega
theorem pad_full {p : List UInt8} {n : Nat} (h : p.length = n) : padL p n = p := by simp [padL, h]
theorem pad_pad {p : List UInt8} {n : Nat} (h : p.length ≤ n) : padL (padL p n) n = padL p n := pad_full (pad_length h)
end Go.Proofs.YtfadglcpapiklaaGreatDoor.Pk
end
section
namespace Go.Proofs.YtfadglcpapiklaaGreatDoor
open Go.RowKit
set_option linter.unusedVariables false
set_option linter.unusedSimpArgs false

def numB (n width : Int) : Bool := decide (1 ≤ width ∧ width ≤ 7 ∧ 0 ≤ n ∧ n.toNat < 256 ^ width.toNat)
def numL (n width : Int) : ByteArray := if numB n width then lineOf (Pk.be width.toNat n.toNat) else ⟨#[]⟩
def numE (n width : Int) : Int := if numB n width then 0 else 50
/-- A text and an error's number. -/
def Tells2 (w : World) (s : ByteArray) (n : Int) (e : Ending) (w' : World) : Prop := e = .returned (.tuple #[.string s, .int .i64 n]) ∧ Below w.heap.size w w'
theorem num_bad (w : World) (n width : Int) (h : Hid (numB n width = false)) (W : World) (hb : Below w.heap.size w W) : Tells2 w (numL n width) (numE n width) (.returned (.tuple #[.string ⟨#[]⟩, .int .i64 50])) W :=
  ⟨by rw [numL, numE, h.out]; rfl, hb⟩
/-- The bytes behind k rounds. -/
def beTo (w n k : Nat) : List UInt8 := (List.range w).map fun j => if w - k ≤ j then UInt8.ofNat (n / 256 ^ (w - 1 - j) % 256) else 0
theorem beTo_length (w n k : Nat) : (beTo w n k).length = w := by simp [beTo]
theorem beTo_zero (w n : Nat) : beTo w n 0 = List.replicate w 0 := by
  apply List.ext_getElem (by simp [beTo])
  intro j h1 h2
  rw [beTo_length] at h1
  simp only [beTo, List.getElem_map, List.getElem_range, List.getElem_replicate]
  rw [if_neg (by omega)]
theorem beTo_all (w n : Nat) : beTo w n w = Pk.be w n := by
  unfold beTo Pk.be
  apply List.map_congr_left
  intro j _
  rw [if_pos (by omega)]
theorem beTo_succ (w n k : Nat) (h : k < w) : beTo w n (k + 1) = (beTo w n k).set (w - 1 - k) (UInt8.ofNat (n / 256 ^ k % 256)) := by
  apply List.ext_getElem (by simp [beTo])
  intro j h1 h2
  rw [beTo_length] at h1
  rw [List.getElem_set]
  simp only [beTo, List.getElem_map, List.getElem_range]
  by_cases e : w - 1 - k = j
  · rw [if_pos e, if_pos (by omega), show w - 1 - j = k by omega]
  · rw [if_neg e]
    by_cases e2 : w - k ≤ j
    · rw [if_pos (by omega), if_pos e2]
    · rw [if_neg (by omega), if_neg e2]
theorem pow_wrap {W : Nat} (h1 : 1 ≤ W) (h2 : W ≤ 7) : wrap64 ((2 : Int) ^ (8 * W)) = ((256 ^ W : Nat) : Int) ∧ (256 ^ W : Nat) ≤ 72057594037927936 := by
  have : W = 1 ∨ W = 2 ∨ W = 3 ∨ W = 4 ∨ W = 5 ∨ W = 6 ∨ W = 7 := by omega
  rcases this with rfl | rfl | rfl | rfl | rfl | rfl | rfl <;> decide +kernel
theorem shr_byte (n k : Nat) : (n : Int) / 2 ^ (8 * k) % 256 = (((UInt8.ofNat (n / 256 ^ k % 256)).toNat : Nat) : Int) := by
  have e : (2 : Int) ^ (8 * k) = ((256 ^ k : Nat) : Int) := by rw [Int.pow_mul]; exact (Int.natCast_pow 256 k).symm
  rw [Pk.byte_nat, e, Int.natCast_emod, Int.natCast_ediv]
  rfl
set_option maxRecDepth 100000 in
set_option maxHeartbeats 1000000 in
theorem num_right (n W : Nat) (w : World) (h1 : 1 ≤ W) (h2 : W ≤ 7) (h : n < 256 ^ W) :
    Calls Tryz.prog 112 #[.int .i64 (n : Int), .int .i64 (W : Int)] w (Tells2 w (lineOf (Pk.be W n)) 0) := by
  obtain ⟨w1, hmk, r0, b0, s0⟩ := BRow.make_run w W (by omega)
  obtain ⟨p1, p2⟩ := pow_wrap h1 h2
  have t0 : decide ((W : Int) < 1) = false := by rw [decide_eq_false_iff_not]; omega
  have t1 : decide (7 < (W : Int)) = false := by rw [decide_eq_false_iff_not]; omega
  have t2 : decide ((n : Int) < 0) = false := by rw [decide_eq_false_iff_not]; omega
  have t3 : decide (wrap64 ((2 : Int) ^ (8 * W)) ≤ (n : Int)) = false := by rw [decide_eq_false_iff_not, p1]; omega
  have hn : n < 72057594037927936 := by omega
  have s0' := Lib.hid s0
  clear p1 p2 h s0
  go_enter Tryz.func112, Tryz.ntmps112
  go_wp2
  go_loopw [28] (fun i wr => ∃ k : Nat, k ≤ W ∧ i = .int .i64 (k : Int) ∧ BRow wr w.heap.size (beTo W n k) ∧ Below w.heap.size w wr) (fun i _ => W - (RowKit.intOf i).toNat)
  case atStart => exact ⟨0, by omega, rfl, by rw [beTo_zero]; exact r0, b0⟩
  case round =>
    obtain ⟨k, hk, rfl, hr, hb⟩ := hrel
    have hlen := beTo_length W n k
    by_cases hlt : k < W
    · have b1 : (k : Int) < (W : Int) := by omega
      have hx := Lib.hid (beTo_succ W n k hlt)
      have hfr := hr.frozen (W - 1 - k)
      have hce := hr.cell (i := W - 1 - k) (by omega)
      go_wp2
      go_roundw
      case rel => exact ⟨k + 1, by omega, by go_num, by rw [hx.out]; exact hr.set (by omega) _ _ (shr_byte n k), hb.setCell (p := ⟨w.heap.size, _, none⟩) (Nat.le_refl _) _⟩
      case measure => simp [RowKit.intOf]; omega
    · have e : k = W := by omega
      subst e
      rw [beTo_all] at hr
      have hst := hr.str k k (by rw [Pk.be_length])
      go_wp2
      go_ret2
      exact ⟨rfl, hb⟩
theorem num_any (n width : Int) (w : World) :
    Calls Tryz.prog 112 #[.int .i64 n, .int .i64 width] w (Tells2 w (numL n width) (numE n width)) := by
  by_cases c0 : width < 1
  · have t0 : decide (width < 1) = true := by rw [decide_eq_true_eq]; omega
    have hz : Hid (numB n width = false) := Lib.hid (by unfold numB; rw [decide_eq_false_iff_not]; omega)
    clear c0
    go_enter Tryz.func112, Tryz.ntmps112
    go_wp2
    go_ret2
    exact num_bad w n width hz _ (Below.refl _ _)
  · by_cases c1 : 7 < width
    · have t0 : decide (width < 1) = false := by rw [decide_eq_false_iff_not]; omega
      have t1 : decide (7 < width) = true := by rw [decide_eq_true_eq]; omega
      have hz : Hid (numB n width = false) := Lib.hid (by unfold numB; rw [decide_eq_false_iff_not]; omega)
      clear c0 c1
      go_enter Tryz.func112, Tryz.ntmps112
      go_wp2
      go_ret2
      exact num_bad w n width hz _ (Below.refl _ _)
    · obtain ⟨W, rfl⟩ := Int.eq_ofNat_of_zero_le (show 0 ≤ width by omega)
      by_cases c2 : n < 0
      · have t0 : decide ((W : Int) < 1) = false := by rw [decide_eq_false_iff_not]; omega
        have t1 : decide (7 < (W : Int)) = false := by rw [decide_eq_false_iff_not]; omega
        have t2 : decide (n < 0) = true := by rw [decide_eq_true_eq]; omega
        have hz : Hid (numB n W = false) := Lib.hid (by unfold numB; rw [decide_eq_false_iff_not]; omega)
        clear c0 c1 c2
        go_enter Tryz.func112, Tryz.ntmps112
        go_wp2
        go_ret2
        exact num_bad w n W hz _ (Below.refl _ _)
      · obtain ⟨N, rfl⟩ := Int.eq_ofNat_of_zero_le (show 0 ≤ n by omega)
        by_cases c3 : N < 256 ^ W
        · have hb : numB (N : Int) (W : Int) = true := by unfold numB; rw [decide_eq_true_eq]; exact ⟨by omega, by omega, by omega, by simpa using c3⟩
          rw [numL, numE, hb, if_pos rfl, if_pos rfl, show ((W : Int)).toNat = W by omega, show ((N : Int)).toNat = N by omega]
          exact num_right N W w (by omega) (by omega) c3
        · obtain ⟨p1, p2⟩ := pow_wrap (W := W) (by omega) (by omega)
          have t0 : decide ((W : Int) < 1) = false := by rw [decide_eq_false_iff_not]; omega
          have t1 : decide (7 < (W : Int)) = false := by rw [decide_eq_false_iff_not]; omega
          have t2 : decide ((N : Int) < 0) = false := by rw [decide_eq_false_iff_not]; omega
          have t3 : decide (wrap64 ((2 : Int) ^ (8 * W)) ≤ (N : Int)) = true := by rw [decide_eq_true_eq, p1]; omega
          have hz : Hid (numB (N : Int) W = false) := Lib.hid (by
            unfold numB; rw [decide_eq_false_iff_not]
            rintro ⟨_, _, _, h⟩
            exact c3 (by simpa using h))
          have b0 : 1 ≤ (W : Int) := by omega
          have b1 : (W : Int) ≤ 7 := by omega
          clear c0 c1 c2 c3 p1 p2
          go_enter Tryz.func112, Tryz.ntmps112
          go_wp2
          go_ret2
          exact num_bad w N W hz _ (Below.refl _ _)
set_option maxHeartbeats 1000000 in
theorem power_nat (n : Nat) (w : World) (h : n ≤ 7) : Calls Tryz.prog 103 #[.int .i64 (n : Int)] w fun e w' => e = .returned (.int .i64 ((256 ^ n : Nat) : Int)) ∧ w = w' := by
  go_enter Tryz.func103, Tryz.ntmps103
  go_wp2
  go_loop [3, 4] (fun p i => ∃ k : Nat, k ≤ n ∧ i = .int .i64 (k : Int) ∧ p = .int .i64 ((256 ^ k : Nat) : Int)) (fun _ i => n - (RowKit.intOf i).toNat)
  case atStart => exact ⟨0, by omega, rfl, rfl⟩
  case round =>
    obtain ⟨k, hk, rfl, rfl⟩ := hrel
    by_cases hlt : k < n
    · have b1 : (k : Int) < (n : Int) := by omega
      have hp : 256 ^ k ≤ 256 ^ 6 := Nat.pow_le_pow_right (by decide) (by omega)
      have hs : Hid (256 ^ (k + 1) = 256 * 256 ^ k) := Lib.hid (by rw [Nat.pow_succ, Nat.mul_comm])
      have hp2 : 256 ^ k ≤ 281474976710656 := hp
      clear hp
      generalize 256 ^ k = q at *
      go_wp2
      go_round
      case rel => exact ⟨k + 1, by omega, by go_num, congrArg (Value.int .i64) (by rw [hs.out]; omega)⟩
      case measure => simp [RowKit.intOf]; omega
    · have e : k = n := by omega
      subst e
      go_wp2
      go_ret
      exact ⟨rfl, (by first | rfl | trivial)⟩
end Go.Proofs.YtfadglcpapiklaaGreatDoor
end
section
namespace Go.Proofs.YtfadglcpapiklaaGreatDoor
open Go.RowKit
set_option linter.unusedVariables false
set_option linter.unusedSimpArgs false

theorem repeat_nought (n : Nat) : (⟨(Lib.repeatL [0] n).toArray⟩ : ByteArray) = lineOf (List.replicate n 0) := by
  have := Lib.repeatL_replicate 0 1 n
  simp only [List.replicate_one, Nat.mul_one] at this
  rw [this]; rfl
theorem line_append (s : ByteArray) (l : List UInt8) : s ++ lineOf l = lineOf (s.data.toList ++ l) := by
  apply ByteArray.ext
  simp [lineOf, ByteArray.data_append]
def fillOk (s : ByteArray) (long : Int) : Bool := decide (0 ≤ long ∧ long ≤ 4096 ∧ (s.size : Int) ≤ long)
def padB (s : ByteArray) (n : Nat) : ByteArray := lineOf (Pk.padL s.data.toList n)
def fillL (s : ByteArray) (long : Int) : ByteArray := if fillOk s long then padB s long.toNat else ⟨#[]⟩
def fillE (s : ByteArray) (long : Int) : Int := if fillOk s long then 0 else 50
theorem fill_bad (w : World) (s : ByteArray) (long : Int) (h : Hid (fillOk s long = false)) (W : World) (hb : Below w.heap.size w W) : Tells2 w (fillL s long) (fillE s long) (.returned (.tuple #[.string ⟨#[]⟩, .int .i64 50])) W :=
  ⟨by rw [fillL, fillE, h.out]; rfl, hb⟩
theorem fill_good (w : World) (s : ByteArray) (n : Nat) (h1 : n ≤ 4096) (h2 : s.size ≤ n) : fillL s (n : Int) = padB s n ∧ fillE s (n : Int) = 0 := by
  have hz : fillOk s (n : Int) = true := by unfold fillOk; rw [decide_eq_true_eq]; omega
  rw [fillL, fillE, hz, if_pos rfl, if_pos rfl, show ((n : Int)).toNat = n by omega]; exact ⟨rfl, rfl⟩
set_option maxRecDepth 100000 in
set_option maxHeartbeats 1000000 in
theorem fill_any (s : ByteArray) (long : Int) (w : World) (hs : s.size ≤ 140737488351232) :
    Calls Tryz.prog 120 #[.string s, .int .i64 long] w (Tells2 w (fillL s long) (fillE s long)) := by
  by_cases c0 : long < 0
  · have t0 : decide (long < 0) = true := by rw [decide_eq_true_eq]; omega
    have hz : Hid (fillOk s long = false) := Lib.hid (by unfold fillOk; rw [decide_eq_false_iff_not]; omega)
    clear c0
    go_enter Tryz.func120, Tryz.ntmps120
    go_wp2
    go_ret2
    exact fill_bad w s long hz _ (Below.refl _ _)
  · by_cases c1 : 4096 < long
    · have t0 : decide (long < 0) = false := by rw [decide_eq_false_iff_not]; omega
      have t1 : decide (4096 < long) = true := by rw [decide_eq_true_eq]; omega
      have hz : Hid (fillOk s long = false) := Lib.hid (by unfold fillOk; rw [decide_eq_false_iff_not]; omega)
      clear c0 c1
      go_enter Tryz.func120, Tryz.ntmps120
      go_wp2
      go_ret2
      exact fill_bad w s long hz _ (Below.refl _ _)
    · obtain ⟨n, rfl⟩ := Int.eq_ofNat_of_zero_le (show 0 ≤ long by omega)
      have t0 : decide ((n : Int) < 0) = false := by rw [decide_eq_false_iff_not]; omega
      have t1 : decide (4096 < (n : Int)) = false := by rw [decide_eq_false_iff_not]; omega
      have t1' : decide (4096 < n) = false := by rw [decide_eq_false_iff_not]; omega
      by_cases c2 : n < s.size
      · have t2 : decide (n < s.size) = true := by rw [decide_eq_true_eq]; omega
        have hz : Hid (fillOk s (n : Int) = false) := Lib.hid (by unfold fillOk; rw [decide_eq_false_iff_not]; omega)
        clear c0 c1 c2
        go_enter Tryz.func120, Tryz.ntmps120
        go_wp2
        go_ret2
        exact fill_bad w s n hz _ (Below.refl _ _)
      · have t2 : decide (n < s.size) = false := by rw [decide_eq_false_iff_not]; omega
        obtain ⟨g1, g2⟩ := fill_good w s n (by omega) (by omega)
        rw [g1, g2]
        have hr := fun W => Tryz.strings_Repeat ⟨#[0]⟩ (n - s.size) W (by omega) (by show 1 * _ ≤ _; omega)
        rw [show (⟨(Lib.repeatL (⟨#[0]⟩ : ByteArray).data.toList (n - s.size)).toArray⟩ : ByteArray) = lineOf (List.replicate (n - s.size) 0) from repeat_nought _, show (((n - s.size : Nat) : Int)) = (n : Int) - (s.size : Int) by omega] at hr
        have hle : (s.size : Int) ≤ (n : Int) := by omega
        have hap := Lib.hid (line_append s (List.replicate (n - s.size) 0))
        have hn : (n : Int) ≤ 4096 := by omega
        have hzs : (lineOf (List.replicate (n - s.size) 0)).size ≤ 4096 := by rw [lineOf_size]; simp; omega
        have hs2 : s.size ≤ 4096 := by omega
        clear c0 c1 c2 g1 g2
        generalize lineOf (List.replicate (n - s.size) 0) = z at *
        go_enter Tryz.func120, Tryz.ntmps120
        go_wp2_with (fail)
        refine (hr _).mono ?_
        rintro e w1 ⟨rfl, hb⟩
        go_wp2_with (fail)
        go_ret2
        exact ⟨by rw [hap.out]; rfl, hb⟩
set_option maxRecDepth 100000 in
set_option maxHeartbeats 1000000 in
theorem rfill_any (s : ByteArray) (long : Int) (w : World) (hs : s.size ≤ 140737488351232) :
    Calls Tryz.prog 67 #[.string s, .int .i64 long] w (Tells2 w (fillL s long) (fillE s long)) := by
  by_cases c0 : long < 0
  · have t0 : decide (long < 0) = true := by rw [decide_eq_true_eq]; omega
    have hz : Hid (fillOk s long = false) := Lib.hid (by unfold fillOk; rw [decide_eq_false_iff_not]; omega)
    clear c0
    go_enter Tryz.func67, Tryz.ntmps67
    go_wp2
    go_ret2
    exact fill_bad w s long hz _ (Below.refl _ _)
  · by_cases c1 : 4096 < long
    · have t0 : decide (long < 0) = false := by rw [decide_eq_false_iff_not]; omega
      have t1 : decide (4096 < long) = true := by rw [decide_eq_true_eq]; omega
      have hz : Hid (fillOk s long = false) := Lib.hid (by unfold fillOk; rw [decide_eq_false_iff_not]; omega)
      clear c0 c1
      go_enter Tryz.func67, Tryz.ntmps67
      go_wp2
      go_ret2
      exact fill_bad w s long hz _ (Below.refl _ _)
    · obtain ⟨n, rfl⟩ := Int.eq_ofNat_of_zero_le (show 0 ≤ long by omega)
      have t0 : decide ((n : Int) < 0) = false := by rw [decide_eq_false_iff_not]; omega
      have t1 : decide (4096 < (n : Int)) = false := by rw [decide_eq_false_iff_not]; omega
      have t1' : decide (4096 < n) = false := by rw [decide_eq_false_iff_not]; omega
      by_cases c2 : n < s.size
      · have t2 : decide (n < s.size) = true := by rw [decide_eq_true_eq]; omega
        have hz : Hid (fillOk s (n : Int) = false) := Lib.hid (by unfold fillOk; rw [decide_eq_false_iff_not]; omega)
        clear c0 c1 c2
        go_enter Tryz.func67, Tryz.ntmps67
        go_wp2
        go_ret2
        exact fill_bad w s n hz _ (Below.refl _ _)
      · have t2 : decide (n < s.size) = false := by rw [decide_eq_false_iff_not]; omega
        obtain ⟨g1, g2⟩ := fill_good w s n (by omega) (by omega)
        rw [g1, g2]
        have hle : s.size ≤ n := by omega
        have hn : n ≤ 4096 := by omega
        clear c0 c1 c2 g1 g2
        go_enter Tryz.func67, Tryz.ntmps67
        go_wp2
        go_loop [0] (fun v => ∃ k : Nat, s.size ≤ k ∧ k ≤ n ∧ v = .string (padB s k)) (fun v => match v with | .string t => n - t.size | _ => 0)
        case atStart => exact ⟨s.size, by omega, by omega, by rw [padB, Pk.pad_full (by simp)]; rfl⟩
        case round =>
          obtain ⟨k, hk1, hk2, rfl⟩ := hrel
          have hsz : (padB s k).size = k := by rw [padB, lineOf_size, Pk.pad_length (by simpa using hk1)]
          by_cases hlt : k < n
          · have hx : Hid (padB s k ++ ⟨#[0]⟩ = padB s (k + 1)) := Lib.hid (by
              show padB s k ++ lineOf [0] = _
              rw [line_append]
              show lineOf (Pk.padL s.data.toList k ++ [0]) = lineOf (Pk.padL s.data.toList (k + 1))
              rw [Pk.padL, Pk.padL, List.append_assoc, ← List.replicate_succ', show k + 1 - s.data.toList.length = k - s.data.toList.length + 1 by simp; omega])
            have hz2 := Lib.hid (show (padB s (k + 1)).size = k + 1 by rw [padB, lineOf_size, Pk.pad_length (by simp; omega)])
            have t3 : decide (((padB s k).size : Int) < (n : Int)) = true := by rw [decide_eq_true_eq]; omega
            have t3' : decide ((padB s k).size < n) = true := by rw [decide_eq_true_eq]; omega
            have hsz' := Lib.hid hsz
            have hq : (padB s k).size ≤ 4096 := by omega
            clear hsz
            generalize padB s k = q at *
            go_wp2
            go_round
            case rel => exact ⟨k + 1, by omega, by omega, by rw [← hx.out]⟩
            case measure =>
              rw [hx.out]
              show n - (padB s (k + 1)).size < n - q.size
              rw [hz2.out, hsz'.out]; omega
          · have e : k = n := by omega
            subst e
            have t3 : decide (((padB s k).size : Int) < (k : Int)) = false := by rw [decide_eq_false_iff_not]; omega
            have t3' : decide ((padB s k).size < k) = false := by rw [decide_eq_false_iff_not]; omega
            clear hsz
            generalize padB s k = q at *
            go_wp2
            go_ret2
            exact ⟨rfl, Below.refl _ _⟩
theorem be_take_succ (W n k : Nat) (h : k < W) : (Pk.be W n).take (k + 1) = (Pk.be W n).take k ++ [UInt8.ofNat (n / 256 ^ (W - 1 - k) % 256)] := by
  rw [List.take_succ_eq_append_getElem (by rw [Pk.be_length]; exact h)]
  simp [Pk.be]
/-- One byte as a text. -/
theorem byte_str (W : World) (b : UInt8) (v : Int) (hv : v = ((b.toNat : Nat) : Int)) : (convert 113 9 (.slice (some ⟨W.heap.size, 0, none⟩) 1 1)).run Tryz.prog (W.alloc (.cells #[.int .u8 v] 5)) = .ok (.string (lineOf [b])) (W.alloc (.cells #[.int .u8 v] 5)) := by
  subst hv
  exact BRow.str (l := [b]) ⟨by rw [heap_alloc_new]; rfl⟩ 1 1 rfl
set_option maxRecDepth 100000 in
set_option maxHeartbeats 1000000 in
theorem rnum_right (n W : Nat) (w : World) (h1 : 1 ≤ W) (h2 : W ≤ 7) (h : n < 256 ^ W) :
    Calls Tryz.prog 68 #[.int .i64 (n : Int), .int .i64 (W : Int)] w (Tells2 w (lineOf (Pk.be W n)) 0) := by
  have hpw := fun W' => power_nat W W' h2
  obtain ⟨p1, p2⟩ := pow_wrap h1 h2
  have t0 : decide ((W : Int) < 1) = false := by rw [decide_eq_false_iff_not]; omega
  have t1 : decide (7 < (W : Int)) = false := by rw [decide_eq_false_iff_not]; omega
  have t2 : decide ((n : Int) < 0) = false := by rw [decide_eq_false_iff_not]; omega
  have t3 : decide (((256 ^ W : Nat) : Int) ≤ (n : Int)) = false := by rw [decide_eq_false_iff_not]; omega
  have t3' : decide ((256 ^ W : Nat) ≤ n) = false := by rw [decide_eq_false_iff_not]; omega
  have hn : n < 72057594037927936 := by omega
  clear p1 h
  generalize 256 ^ W = P at *
  have hpw' := Lib.hid hpw
  clear hpw
  go_enter Tryz.func68, Tryz.ntmps68
  go_wp2_with (fail)
  refine (hpw'.out _).mono ?_
  rintro e wq ⟨rfl, rfl⟩
  go_wp2_with (fail)
  go_loopw [6, 7] (fun s i wr => ∃ k : Nat, k ≤ W ∧ i = .int .i64 ((W : Int) - 1 - (k : Int)) ∧ s = .string (lineOf ((Pk.be W n).take k)) ∧ Below w.heap.size w wr) (fun _ i _ => (RowKit.intOf i + 1).toNat)
  case atStart => exact ⟨0, by omega, by simp, rfl, Below.refl _ _⟩
  case round =>
    obtain ⟨k, hk, rfl, rfl, hb⟩ := hrel
    by_cases hlt : k < W
    · have t4 : decide ((0 : Int) ≤ (W : Int) - 1 - (k : Int)) = true := by rw [decide_eq_true_eq]; omega
      have hx := Lib.hid (be_take_succ W n k hlt)
      have hp := fun W' => power_nat (W - 1 - k) W' (by omega)
      rw [show (((W - 1 - k : Nat)) : Int) = (W : Int) - 1 - (k : Int) by omega] at hp
      have hpos : 1 ≤ 256 ^ (W - 1 - k) := Nat.pow_pos (by decide)
      have hpu : 256 ^ (W - 1 - k) ≤ 256 ^ 6 := Nat.pow_le_pow_right (by decide) (by omega)
      have hpu2 : 256 ^ (W - 1 - k) ≤ 281474976710656 := hpu
      have hsz : (lineOf ((Pk.be W n).take k)).size ≤ 7 := by rw [lineOf_size, List.length_take]; omega
      have hbs := fun W' => byte_str W' (UInt8.ofNat (n / 256 ^ (W - 1 - k) % 256)) ((n : Int) / ((256 ^ (W - 1 - k) : Nat) : Int) % 256) (by rw [Pk.byte_nat, Int.natCast_emod, Int.natCast_ediv]; rfl)
      have hap := Lib.hid (line_append (lineOf ((Pk.be W n).take k)) [UInt8.ofNat (n / 256 ^ (W - 1 - k) % 256)])
      have hs1 : (lineOf [UInt8.ofNat (n / 256 ^ (W - 1 - k) % 256)]).size ≤ 1 := by rw [lineOf_size]; simp
      have hlast : Hid ((lineOf ((Pk.be W n).take k)) ++ lineOf [UInt8.ofNat (n / 256 ^ (W - 1 - k) % 256)] = lineOf ((Pk.be W n).take (k + 1))) := Lib.hid (by rw [hap.out, hx.out, list_lineOf])
      have hp' := Lib.hid hp
      clear hpu hp hx hap
      generalize lineOf [UInt8.ofNat (n / 256 ^ (W - 1 - k) % 256)] = z at *
      generalize lineOf ((Pk.be W n).take k) = q at *
      generalize 256 ^ (W - 1 - k) = d at *
      have q0 : 0 ≤ (n : Int) / (d : Int) := Int.ediv_nonneg (by omega) (by omega)
      have q1 : (n : Int) / (d : Int) ≤ 72057594037927936 := by have := Int.ediv_le_self (d : Int) (show 0 ≤ (n : Int) by omega); omega
      go_wp2_with (fail)
      refine (hp'.out _).mono ?_
      rintro e wq ⟨rfl, rfl⟩
      go_wp2_with (fail)
      go_roundw
      case rel => exact ⟨k + 1, by omega, congrArg (Value.int .i64) (by omega), by rw [hlast.out], hb.alloc (by exact hb.size) _⟩
      case measure => simp [RowKit.intOf]; omega
    · have e : k = W := by omega
      subst e
      have t4 : decide ((0 : Int) ≤ (k : Int) - 1 - (k : Int)) = false := by rw [decide_eq_false_iff_not]; omega
      rw [List.take_of_length_le (by rw [Pk.be_length]; omega)]
      go_wp2_with (fail)
      go_ret2
      exact ⟨rfl, hb⟩
theorem rnum_any (n width : Int) (w : World) :
    Calls Tryz.prog 68 #[.int .i64 n, .int .i64 width] w (Tells2 w (numL n width) (numE n width)) := by
  by_cases c0 : width < 1
  · have t0 : decide (width < 1) = true := by rw [decide_eq_true_eq]; omega
    have hz : Hid (numB n width = false) := Lib.hid (by unfold numB; rw [decide_eq_false_iff_not]; omega)
    clear c0
    go_enter Tryz.func68, Tryz.ntmps68
    go_wp2
    go_ret2
    exact num_bad w n width hz _ (Below.refl _ _)
  · by_cases c1 : 7 < width
    · have t0 : decide (width < 1) = false := by rw [decide_eq_false_iff_not]; omega
      have t1 : decide (7 < width) = true := by rw [decide_eq_true_eq]; omega
      have hz : Hid (numB n width = false) := Lib.hid (by unfold numB; rw [decide_eq_false_iff_not]; omega)
      clear c0 c1
      go_enter Tryz.func68, Tryz.ntmps68
      go_wp2
      go_ret2
      exact num_bad w n width hz _ (Below.refl _ _)
    · obtain ⟨W, rfl⟩ := Int.eq_ofNat_of_zero_le (show 0 ≤ width by omega)
      by_cases c2 : n < 0
      · have t0 : decide ((W : Int) < 1) = false := by rw [decide_eq_false_iff_not]; omega
        have t1 : decide (7 < (W : Int)) = false := by rw [decide_eq_false_iff_not]; omega
        have t2 : decide (n < 0) = true := by rw [decide_eq_true_eq]; omega
        have hz : Hid (numB n W = false) := Lib.hid (by unfold numB; rw [decide_eq_false_iff_not]; omega)
        clear c0 c1 c2
        go_enter Tryz.func68, Tryz.ntmps68
        go_wp2
        go_ret2
        exact num_bad w n W hz _ (Below.refl _ _)
      · obtain ⟨N, rfl⟩ := Int.eq_ofNat_of_zero_le (show 0 ≤ n by omega)
        by_cases c3 : N < 256 ^ W
        · have hb : numB (N : Int) (W : Int) = true := by unfold numB; rw [decide_eq_true_eq]; exact ⟨by omega, by omega, by omega, by simpa using c3⟩
          rw [numL, numE, hb, if_pos rfl, if_pos rfl, show ((W : Int)).toNat = W by omega, show ((N : Int)).toNat = N by omega]
          exact rnum_right N W w (by omega) (by omega) c3
        · obtain ⟨p1, p2⟩ := pow_wrap (W := W) (by omega) (by omega)
          have t0 : decide ((W : Int) < 1) = false := by rw [decide_eq_false_iff_not]; omega
          have t1 : decide (7 < (W : Int)) = false := by rw [decide_eq_false_iff_not]; omega
          have t2 : decide ((N : Int) < 0) = false := by rw [decide_eq_false_iff_not]; omega
          have t3 : decide (((256 ^ W : Nat) : Int) ≤ (N : Int)) = true := by rw [decide_eq_true_eq]; omega
          have t3' : decide ((256 ^ W : Nat) ≤ N) = true := by rw [decide_eq_true_eq]; omega
          have hz : Hid (numB (N : Int) W = false) := Lib.hid (by
            unfold numB; rw [decide_eq_false_iff_not]
            rintro ⟨_, _, _, h⟩
            exact c3 (by simpa using h))
          have b0 : 1 ≤ (W : Int) := by omega
          have b1 : (W : Int) ≤ 7 := by omega
          have hpw := fun W' => power_nat W W' (by omega)
          clear c0 c1 c2 c3 p1
          generalize 256 ^ W = P at *
          have hpw' := Lib.hid hpw
          clear hpw
          go_enter Tryz.func68, Tryz.ntmps68
          go_wp2_with (fail)
          refine (hpw'.out _).mono ?_
          rintro e wq ⟨rfl, rfl⟩
          go_wp2_with (fail)
          go_ret2
          exact num_bad w N W hz _ (Below.refl _ _)
end Go.Proofs.YtfadglcpapiklaaGreatDoor
end
section
/- CRC-32C: plain mathematics, no program. -/
namespace Go.Proofs.YtfadglcpapiklaaGreatDoor.Crc
/-- One step: a division by x. -/
def step (s : Nat) : Nat := s / 2 ^^^ (if s % 2 = 1 then 2197175160 else 0)
def steps : Nat → Nat → Nat
  | 0, s => s
  | n + 1, s => step (steps n s)
def byte (s b : Nat) : Nat := steps 8 (s ^^^ b)
def go (s : Nat) (l : List UInt8) : Nat := l.foldl (fun s b => byte s b.toNat) s
def fin (s : Nat) : Nat := s ^^^ 4294967295
def sum (l : List UInt8) : Nat := fin (go 4294967295 l)

theorem go_append (s : Nat) (a b : List UInt8) : go s (a ++ b) = go (go s a) b := List.foldl_append ..
theorem go_snoc (s : Nat) (a : List UInt8) (b : UInt8) : go s (a ++ [b]) = byte (go s a) b.toNat := by rw [go_append]; rfl
theorem steps_succ (n s : Nat) : steps (n + 1) s = step (steps n s) := rfl

theorem xor_lt {x y : Nat} (hx : x < 4294967296) (hy : y < 4294967296) : x ^^^ y < 4294967296 := Nat.xor_lt_two_pow (n := 32) hx hy
theorem step_lt {s : Nat} (h : s < 4294967296) : step s < 4294967296 := by
  unfold step
  refine xor_lt (by omega) ?_
  split <;> decide
theorem steps_lt {n s : Nat} (h : s < 4294967296) : steps n s < 4294967296 := by
  induction n with
  | zero => exact h
  | succ n ih => exact step_lt ih
theorem byte_lt {s b : Nat} (h : s < 4294967296) (hb : b < 256) : byte s b < 4294967296 := steps_lt (xor_lt h (by omega))
theorem go_lt {s : Nat} (h : s < 4294967296) : ∀ l : List UInt8, go s l < 4294967296 := by
  intro l
  induction l generalizing s with
  | nil => exact h
  | cons b l ih => exact ih (byte_lt h (UInt8.toNat_lt b))
theorem fin_lt {s : Nat} (h : s < 4294967296) : fin s < 4294967296 := xor_lt h (by decide)

/-! Sums of texts. -/
theorem half_xor (x y : Nat) : (x ^^^ y) / 2 = x / 2 ^^^ y / 2 := by
  have := Nat.shiftRight_xor_distrib (a := x) (b := y) (i := 1)
  simpa [Nat.shiftRight_eq_div_pow] using this
theorem odd_xor (x y : Nat) : (x ^^^ y) % 2 = (x % 2 + y % 2) % 2 := by
  have h := Nat.xor_mod_two_pow (a := x) (b := y) (n := 1)
  rw [Nat.pow_one] at h
  rw [h]
  rcases Nat.mod_two_eq_zero_or_one x with hx | hx <;> rcases Nat.mod_two_eq_zero_or_one y with hy | hy <;> rw [hx, hy] <;> decide
theorem xor4 (a b c d : Nat) : (a ^^^ b) ^^^ (c ^^^ d) = (a ^^^ c) ^^^ (b ^^^ d) := by
  rw [Nat.xor_assoc, ← Nat.xor_assoc b, Nat.xor_comm b, Nat.xor_assoc c, ← Nat.xor_assoc a]
theorem step_xor (x y : Nat) : step (x ^^^ y) = step x ^^^ step y := by
  unfold step
  rw [half_xor, odd_xor, xor4]
  congr 1
  rcases Nat.mod_two_eq_zero_or_one x with hx | hx <;> rcases Nat.mod_two_eq_zero_or_one y with hy | hy <;> rw [hx, hy] <;> decide
/-! Unlike states stay unlike. -/
theorem step_top {s : Nat} (h : s < 4294967296) : step s / 2147483648 = s % 2 := by
  unfold step
  have e : ∀ x y : Nat, (x ^^^ y) / 2147483648 = x / 2147483648 ^^^ y / 2147483648 := fun x y => by
    have := Nat.shiftRight_xor_distrib (a := x) (b := y) (i := 31)
    simpa [Nat.shiftRight_eq_div_pow] using this
  rw [e, Nat.div_eq_of_lt (by omega : s / 2 < 2147483648)]
  rcases Nat.mod_two_eq_zero_or_one s with hs | hs <;> rw [hs] <;> decide
theorem step_zero {s : Nat} (h : s < 4294967296) (e : step s = 0) : s = 0 := by
  have ht := step_top h
  rw [e] at ht
  unfold step at e
  rw [if_neg (by omega), Nat.xor_zero] at e
  omega
theorem xor_eq_zero {x y : Nat} (h : x ^^^ y = 0) : x = y := by
  have : x ^^^ y ^^^ y = 0 ^^^ y := by rw [h]
  rwa [Nat.xor_assoc, Nat.xor_self, Nat.xor_zero, Nat.zero_xor] at this
theorem step_inj {s t : Nat} (hs : s < 4294967296) (ht : t < 4294967296) (e : step s = step t) : s = t := by
  have : step (s ^^^ t) = 0 := by rw [step_xor, e, Nat.xor_self]
  exact xor_eq_zero (step_zero (xor_lt hs ht) this)
theorem xor_right_cancel {x y z : Nat} (h : x ^^^ z = y ^^^ z) : x = y := by
  have : x ^^^ z ^^^ z = y ^^^ z ^^^ z := by rw [h]
  rwa [Nat.xor_assoc, Nat.xor_assoc, Nat.xor_self, Nat.xor_zero, Nat.xor_zero] at this
theorem fin_inj {s t : Nat} (e : fin s = fin t) : s = t := xor_right_cancel e

/-! Bit by bit. -/
def bstep (s l : Nat) : Nat := step (s ^^^ l)
def bgo (s : Nat) (f : Nat → Nat) : Nat → Nat
  | 0 => s
  | n + 1 => bstep (bgo s f n) (f n)
theorem bgo_add (s : Nat) (f : Nat → Nat) (n m : Nat) : bgo s f (n + m) = bgo (bgo s f n) (fun i => f (n + i)) m := by
  induction m with
  | zero => rfl
  | succ m ih => rw [Nat.add_succ, bgo, ih]; rfl
theorem bgo_congr (s : Nat) {f g : Nat → Nat} {n : Nat} (h : ∀ i, i < n → f i = g i) : bgo s f n = bgo s g n := by
  induction n with
  | zero => rfl
  | succ n ih => rw [bgo, bgo, ih (fun i hi => h i (by omega)), h n (by omega)]
theorem bstep_lt {s l : Nat} (h : s < 4294967296) (hl : l < 2) : bstep s l < 4294967296 := step_lt (xor_lt h (by omega))
theorem bgo_lt {s : Nat} {f : Nat → Nat} {n : Nat} (h : s < 4294967296) (hf : ∀ i, f i < 2) : bgo s f n < 4294967296 := by
  induction n with
  | zero => exact h
  | succ n ih => exact bstep_lt ih (hf n)
theorem step_even (c : Nat) : step (2 * c) = c := by
  unfold step; rw [if_neg (by omega), Nat.xor_zero]; omega
theorem even_xor_bit (c l : Nat) (h : l < 2) : 2 * c + l = 2 * c ^^^ l := by
  rcases (by omega : l = 0 ∨ l = 1) with rfl | rfl
  · rw [Nat.xor_zero, Nat.add_zero]
  · apply Nat.eq_of_testBit_eq
    intro j
    cases j with
    | zero => simp [Nat.testBit_zero]
    | succ j =>
      rw [Nat.testBit_xor, Nat.testBit_succ, Nat.testBit_succ, Nat.testBit_succ, show (2 * c + 1) / 2 = c by omega, show 2 * c / 2 = c by omega]
      simp
theorem steps_bits (s b : Nat) : ∀ k, steps k (s ^^^ b) = bgo s (fun i => b / 2 ^ i % 2) k ^^^ b / 2 ^ k
  | 0 => by simp [steps, bgo]
  | k + 1 => by
    rw [steps_succ, steps_bits s b k, bgo, bstep]
    have e : b / 2 ^ k = 2 * (b / 2 ^ (k + 1)) ^^^ (b / 2 ^ k % 2) := by
      rw [← even_xor_bit _ _ (Nat.mod_lt _ (by decide)), Nat.pow_succ, ← Nat.div_div_eq_div_mul]; omega
    generalize hc : b / 2 ^ (k + 1) = c at *
    generalize hl : b / 2 ^ k % 2 = l at *
    rw [e, Nat.xor_comm (2 * c), ← Nat.xor_assoc, step_xor, step_even]
theorem byte_bits {s b : Nat} (hb : b < 256) : byte s b = bgo s (fun i => b / 2 ^ i % 2) 8 := by
  unfold byte
  rw [steps_bits, Nat.div_eq_of_lt (by omega : b < 2 ^ 8), Nat.xor_zero]
def bitAt (l : List UInt8) (i : Nat) : Nat := (l.getD (i / 8) 0).toNat / 2 ^ (i % 8) % 2
theorem bitAt_lt (l : List UInt8) (i : Nat) : bitAt l i < 2 := Nat.mod_lt _ (by decide)
theorem bitAt_cons (b : UInt8) (l : List UInt8) (i : Nat) : bitAt (b :: l) (8 + i) = bitAt l i := by
  unfold bitAt
  rw [show (8 + i) / 8 = i / 8 + 1 by omega, show (8 + i) % 8 = i % 8 by omega, List.getD_cons_succ]
theorem go_bits (s : Nat) (l : List UInt8) : go s l = bgo s (bitAt l) (8 * l.length) := by
  induction l generalizing s with
  | nil => rfl
  | cons b l ih =>
    have : go s (b :: l) = go (byte s b.toNat) l := rfl
    rw [this, ih, byte_bits (UInt8.toNat_lt b), List.length_cons, show 8 * (l.length + 1) = 8 + 8 * l.length by omega, bgo_add]
    have e1 : bgo s (bitAt (b :: l)) 8 = bgo s (fun i => b.toNat / 2 ^ i % 2) 8 := bgo_congr s fun i hi => by
      unfold bitAt
      rw [show i / 8 = 0 by omega, show i % 8 = i by omega, List.getD_cons_zero]
    rw [e1]
    exact bgo_congr _ fun i _ => (bitAt_cons b l i).symm

/-! A run of at most 32 bits. -/
theorem bgo_inj {s t : Nat} {f : Nat → Nat} {n : Nat} (hf : ∀ i, f i < 2) (hs : s < 4294967296) (ht : t < 4294967296) (h : bgo s f n = bgo t f n) : s = t := by
  induction n with
  | zero => exact h
  | succ n ih =>
    refine ih (xor_right_cancel (z := f n) (step_inj (xor_lt (bgo_lt hs hf) ?_) (xor_lt (bgo_lt ht hf) ?_) h)) <;> exact Nat.lt_of_lt_of_le (hf n) (by decide)
theorem small_of_step {x j : Nat} (hx : x < 4294967296) (hj : j ≤ 31) (h : step x < 2 ^ j) : x % 2 = 0 ∧ x < 2 ^ (j + 1) := by
  have h31 : 2 ^ j ≤ 2 ^ 31 := Nat.pow_le_pow_right (by decide) hj
  have ht := step_top hx
  rw [Nat.div_eq_of_lt (by omega)] at ht
  refine ⟨ht.symm, ?_⟩
  unfold step at h
  rw [if_neg (by omega), Nat.xor_zero] at h
  rw [Nat.pow_succ]; omega
/-- The differences of two runs. -/
def dif (s : Nat) (f g : Nat → Nat) (k : Nat) : Nat := bgo s f k ^^^ bgo s g k
theorem dif_succ (s : Nat) (f g : Nat → Nat) (k : Nat) : dif s f g (k + 1) = step (dif s f g k ^^^ (f k ^^^ g k)) := by
  unfold dif
  rw [bgo, bgo, bstep, bstep, ← step_xor, xor4]
theorem dif_lt {s : Nat} {f g : Nat → Nat} {k : Nat} (hs : s < 4294967296) (hf : ∀ i, f i < 2) (hg : ∀ i, g i < 2) : dif s f g k < 4294967296 := xor_lt (bgo_lt hs hf) (bgo_lt hs hg)
theorem bit_xor_lt {a b : Nat} (ha : a < 2) (hb : b < 2) : a ^^^ b < 2 := Nat.xor_lt_two_pow (n := 1) ha hb
theorem dif_back {s : Nat} {f g : Nat → Nat} (hs : s < 4294967296) (hf : ∀ i, f i < 2) (hg : ∀ i, g i < 2) {m : Nat} (h0 : dif s f g m = 0) :
    ∀ j, j ≤ 32 → j ≤ m → dif s f g (m - j) < 2 ^ j ∧ ∀ k, m - j ≤ k → k < m → (dif s f g k ^^^ (f k ^^^ g k)) % 2 = 0
  | 0, _, _ => ⟨by rw [Nat.sub_zero, h0]; decide, fun k h1 h2 => by omega⟩
  | j + 1, hj, hm => by
    obtain ⟨h1, h2⟩ := dif_back hs hf hg h0 j (by omega) (by omega)
    have e : m - j = (m - (j + 1)) + 1 := by omega
    rw [e, dif_succ] at h1
    have hb := bit_xor_lt (hf (m - (j + 1))) (hg (m - (j + 1)))
    have hd := dif_lt (k := m - (j + 1)) hs hf hg
    obtain ⟨h3, h4⟩ := small_of_step (xor_lt hd (by omega)) (by omega) h1
    refine ⟨?_, fun k hk1 hk2 => ?_⟩
    · have : dif s f g (m - (j + 1)) = dif s f g (m - (j + 1)) ^^^ (f (m - (j + 1)) ^^^ g (m - (j + 1))) ^^^ (f (m - (j + 1)) ^^^ g (m - (j + 1))) := by rw [Nat.xor_assoc, Nat.xor_self, Nat.xor_zero]
      rw [this]
      refine Nat.xor_lt_two_pow h4 (Nat.lt_of_lt_of_le hb ?_)
      exact Nat.le_trans (show 2 ≤ 2 ^ 1 by decide) (Nat.pow_le_pow_right (by decide) (by omega))
    · by_cases e2 : k = m - (j + 1)
      · rw [e2]; exact h3
      · exact h2 k (by omega) hk2
theorem run_same {s : Nat} {f g : Nat → Nat} {n a : Nat} (hs : s < 4294967296) (hf : ∀ i, f i < 2) (hg : ∀ i, g i < 2)
    (hlow : ∀ i, i < a → f i = g i) (hhigh : ∀ i, a + 32 ≤ i → f i = g i) (h : bgo s f n = bgo s g n) : ∀ i, i < n → f i = g i := by
  by_cases han : n ≤ a
  · exact fun i hi => hlow i (by omega)
  obtain ⟨m, hm, hma, hmn⟩ : ∃ m, (m = a + 32 ∨ m = n) ∧ m ≤ a + 32 ∧ m ≤ n := by
    by_cases h : a + 32 ≤ n
    · exact ⟨a + 32, .inl rfl, by omega, h⟩
    · exact ⟨n, .inr rfl, by omega, by omega⟩
  have hm0 : dif s f g m = 0 := by
    have e : bgo s f m = bgo s g m := by
      rcases hm with rfl | rfl
      · have h' := h
        rw [show n = (a + 32) + (n - (a + 32)) by omega, bgo_add s f (a + 32), bgo_add s g (a + 32)] at h'
        have e2 : bgo (bgo s g (a + 32)) (fun i => g (a + 32 + i)) (n - (a + 32)) = bgo (bgo s g (a + 32)) (fun i => f (a + 32 + i)) (n - (a + 32)) :=
          bgo_congr _ fun i _ => (hhigh _ (by omega)).symm
        rw [e2] at h'
        exact bgo_inj (fun i => hf _) (bgo_lt hs hf) (bgo_lt hs hg) h'
      · exact h
    unfold dif; rw [e, Nat.xor_self]
  obtain ⟨_, hb⟩ := dif_back hs hf hg hm0 (m - a) (by omega) (by omega)
  have ha0 : dif s f g a = 0 := by
    unfold dif; rw [bgo_congr s hlow, Nat.xor_self]
  have hz : ∀ k, k ≤ m - a → dif s f g (a + k) = 0 ∧ ∀ i, i < k → f (a + i) = g (a + i) := by
    intro k
    induction k with
    | zero => exact fun _ => ⟨ha0, fun i hi => by omega⟩
    | succ k ih =>
      intro hk
      obtain ⟨h1, h2⟩ := ih (by omega)
      have h3 := hb (a + k) (by omega) (by omega)
      rw [h1, Nat.zero_xor] at h3
      have hlt := bit_xor_lt (hf (a + k)) (hg (a + k))
      have he : f (a + k) ^^^ g (a + k) = 0 := by omega
      refine ⟨?_, fun i hi => ?_⟩
      · rw [← Nat.add_assoc, dif_succ, h1, he]; decide
      · by_cases e : i = k
        · rw [e]; exact xor_eq_zero he
        · exact h2 i (by omega)
  intro i hi
  by_cases h1 : i < a
  · exact hlow i h1
  by_cases h2 : a + 32 ≤ i
  · exact hhigh i h2
  have := (hz (m - a) (by omega)).2 (i - a) (by omega)
  rwa [show a + (i - a) = i by omega] at this

/-! The document's division, the other way round. -/
def rv : Nat → Nat → Nat
  | 0, _ => 0
  | k + 1, n => 2 * rv k n + n / 2 ^ k % 2
theorem rv_bit (n : Nat) : ∀ k i, (rv k n).testBit i = (decide (i < k) && n.testBit (k - 1 - i))
  | 0, i => by simp [rv]
  | k + 1, 0 => by
    rw [rv, Nat.testBit_zero, show k + 1 - 1 - 0 = k by omega, Nat.testBit_eq_decide_div_mod_eq]
    simp
  | k + 1, i + 1 => by
    rw [rv, Nat.testBit_succ, show (2 * rv k n + n / 2 ^ k % 2) / 2 = rv k n by omega, rv_bit n k i, show k + 1 - 1 - (i + 1) = k - 1 - i by omega]
    simp
theorem rv_lt (n : Nat) : ∀ k, rv k n < 2 ^ k
  | 0 => by simp [rv]
  | k + 1 => by have := rv_lt n k; rw [rv, Nat.pow_succ]; omega
theorem rv_xor (k a b : Nat) : rv k (a ^^^ b) = rv k a ^^^ rv k b := by
  apply Nat.eq_of_testBit_eq
  intro i
  simp only [Nat.testBit_xor, rv_bit]
  cases decide (i < k) <;> simp
def dstep (r l : Nat) : Nat := if r / 2147483648 = l then 2 * (r % 2147483648) else 2 * (r % 2147483648) ^^^ 517762881
theorem rv_top {s : Nat} : rv 32 s / 2147483648 = s % 2 := by
  have hl := rv_lt s 32
  have h := rv_bit s 32 31
  rw [Nat.testBit_eq_decide_div_mod_eq] at h
  simp [Nat.testBit_zero] at h
  have : rv 32 s / 2147483648 < 2 := by omega
  have h2 : rv 32 s / 2147483648 % 2 = rv 32 s / 2147483648 := Nat.mod_eq_of_lt this
  rw [h2] at h
  omega
theorem rv_half {s : Nat} (h : s < 4294967296) : rv 32 (s / 2) = 2 * (rv 32 s % 2147483648) := by
  apply Nat.eq_of_testBit_eq
  intro i
  cases i with
  | zero =>
    rw [rv_bit, Nat.testBit_zero, ← Nat.testBit_succ]
    have : s.testBit 32 = false := Nat.testBit_lt_two_pow h
    simp [this]
  | succ i =>
    have e1 : (2 * (rv 32 s % 2147483648)).testBit (i + 1) = (rv 32 s % 2 ^ 31).testBit i := by
      rw [Nat.testBit_succ, show 2 * (rv 32 s % 2147483648) / 2 = rv 32 s % 2 ^ 31 by omega]
    have e2 : ∀ k, (s / 2).testBit k = s.testBit (k + 1) := fun k => (Nat.testBit_succ ..).symm
    rw [rv_bit, e1, e2, Nat.testBit_mod_two_pow, rv_bit]
    by_cases hi : i < 31
    · rw [show 32 - 1 - (i + 1) + 1 = 32 - 1 - i by omega]
      simp [hi, show i < 32 by omega, show i + 1 < 32 by omega]
    · simp [hi, show ¬ i + 1 < 32 by omega]
theorem dstep_rv {s l : Nat} (h : s < 4294967296) (hl : l < 2) : dstep (rv 32 s) l = rv 32 (bstep s l) := by
  unfold dstep bstep step
  have e1 : (s ^^^ l) / 2 = s / 2 := by rw [half_xor, show l / 2 = 0 by omega, Nat.xor_zero]
  have e2 : (s ^^^ l) % 2 = (s % 2 + l) % 2 := by rw [odd_xor, show l % 2 = l by omega]
  rw [rv_top, e1, e2, rv_xor, rv_half h]
  by_cases e : s % 2 = l
  · rw [if_pos e, if_neg (by omega)]
    have : rv 32 0 = 0 := by decide +kernel
    rw [this, Nat.xor_zero]
  · rw [if_neg e, if_pos (by omega)]
    have : rv 32 2197175160 = 517762881 := by decide +kernel
    rw [this]
theorem rv_rv {s : Nat} (h : s < 4294967296) : rv 32 (rv 32 s) = s := by
  apply Nat.eq_of_testBit_eq
  intro i
  rw [rv_bit, rv_bit]
  by_cases hi : i < 32
  · rw [show 32 - 1 - (32 - 1 - i) = i by omega]
    simp [hi, show 32 - 1 - i < 32 by omega]
  · have : s.testBit i = false := Nat.testBit_lt_two_pow (Nat.lt_of_lt_of_le h (Nat.pow_le_pow_right (n := 2) (by decide) (show 32 ≤ i by omega)))
    simp [hi, this]
def dgo (r : Nat) (f : Nat → Nat) : Nat → Nat
  | 0 => r
  | n + 1 => dstep (dgo r f n) (f n)
theorem dgo_rv {s : Nat} {f : Nat → Nat} (h : s < 4294967296) (hf : ∀ i, f i < 2) : ∀ n, dgo (rv 32 s) f n = rv 32 (bgo s f n)
  | 0 => rfl
  | n + 1 => by rw [dgo, dgo_rv h hf n, dstep_rv (bgo_lt h hf) (hf n)]; rfl
theorem dgo_go {s : Nat} (h : s < 4294967296) (l : List UInt8) : rv 32 (dgo (rv 32 s) (bitAt l) (8 * l.length)) = go s l := by
  rw [dgo_rv h (bitAt_lt l), rv_rv (bgo_lt h (bitAt_lt l)), go_bits]
end Go.Proofs.YtfadglcpapiklaaGreatDoor.Crc
end
section
namespace Go.Proofs.YtfadglcpapiklaaGreatDoor
open Go.RowKit
set_option linter.unusedVariables false
set_option linter.unusedSimpArgs false

theorem xor32 (a b : Nat) (h1 : a < 4294967296) (h2 : b < 4294967296) : bits .xor .u32 (a : Int) (b : Int) = ((a ^^^ b : Nat) : Int) := by
  have hl := Crc.xor_lt h1 h2
  have e : (BitVec.ofNat 32 a ^^^ BitVec.ofNat 32 b).toNat = a ^^^ b := by
    rw [BitVec.toNat_xor, BitVec.toNat_ofNat, BitVec.toNat_ofNat, Nat.mod_eq_of_lt (by omega), Nat.mod_eq_of_lt (by omega)]
  have e2 : bits .xor .u32 (a : Int) (b : Int) = IntKind.u32.wrap (((BitVec.ofNat 32 a ^^^ BitVec.ofNat 32 b).toNat : Nat) : Int) := by
    have ea : BitVec.ofInt 32 (a : Int) = BitVec.ofNat 32 a := BitVec.ofInt_natCast 32 a
    have eb : BitVec.ofInt 32 (b : Int) = BitVec.ofNat 32 b := BitVec.ofInt_natCast 32 b
    rw [← ea, ← eb]; rfl
  rw [e2, e, IntKind.wrap_u32]
  omega
theorem and32 (a : Nat) (h1 : a < 4294967296) : bits .and .u32 (a : Int) 1 = ((a % 2 : Nat) : Int) := by
  have e : (BitVec.ofNat 32 a &&& BitVec.ofNat 32 1).toNat = a % 2 := by
    rw [BitVec.toNat_and, BitVec.toNat_ofNat, BitVec.toNat_ofNat, Nat.mod_eq_of_lt (by omega : a < 2 ^ 32)]
    exact Nat.and_one_is_mod a
  have e2 : bits .and .u32 (a : Int) 1 = IntKind.u32.wrap (((BitVec.ofNat 32 a &&& BitVec.ofNat 32 1).toNat : Nat) : Int) := by
    have ea : BitVec.ofInt 32 (a : Int) = BitVec.ofNat 32 a := BitVec.ofInt_natCast 32 a
    have eb : BitVec.ofInt 32 (1 : Int) = BitVec.ofNat 32 1 := BitVec.ofInt_natCast 32 1
    rw [← ea, ← eb]; rfl
  rw [e2, e, IntKind.wrap_u32]
  omega

theorem step_even (s : Nat) (w : World) (h : s < 4294967296) (hz : s % 2 = 0) :
    Calls Tryz.prog 135 #[.int .u32 (s : Int)] w fun e w' => e = .returned (.int .u32 ((Crc.step s : Nat) : Int)) ∧ w = w' := by
  have ha := and32 s h
  rw [hz] at ha
  have hx : bits .xor .u32 ((s : Int) / 2) 0 = ((Crc.step s : Nat) : Int) := by
    have := xor32 (s / 2) 0 (by omega) (by decide)
    rw [show Crc.step s = s / 2 ^^^ 0 by unfold Crc.step; rw [if_neg (by omega)], ← this]
    rfl
  clear hz
  go_enter Tryz.func135, Tryz.ntmps135
  go_wp2
  go_ret
  exact ⟨rfl, rfl⟩
theorem step_odd (s : Nat) (w : World) (h : s < 4294967296) (hz : s % 2 = 1) :
    Calls Tryz.prog 135 #[.int .u32 (s : Int)] w fun e w' => e = .returned (.int .u32 ((Crc.step s : Nat) : Int)) ∧ w = w' := by
  have ha := and32 s h
  rw [hz] at ha
  have hx : bits .xor .u32 ((s : Int) / 2) 2197175160 = ((Crc.step s : Nat) : Int) := by
    have := xor32 (s / 2) 2197175160 (by omega) (by decide)
    rw [show Crc.step s = s / 2 ^^^ 2197175160 by unfold Crc.step; rw [if_pos hz], ← this]
    rfl
  clear hz
  go_enter Tryz.func135, Tryz.ntmps135
  go_wp2
  go_ret
  exact ⟨rfl, rfl⟩
theorem step_nat (s : Nat) (w : World) (h : s < 4294967296) :
    Calls Tryz.prog 135 #[.int .u32 (s : Int)] w fun e w' => e = .returned (.int .u32 ((Crc.step s : Nat) : Int)) ∧ w = w' := by
  rcases Nat.mod_two_eq_zero_or_one s with hz | hz
  · exact step_even s w h hz
  · exact step_odd s w h hz

theorem crc_byte_get (s : ByteArray) (k : Nat) (h : k < s.size) : s[k] = s.data.toList.getD k 0 := by
  rw [List.getD_eq_getElem?_getD, List.getElem?_eq_getElem (by simpa using h)]
  rfl
theorem take_snoc (s : ByteArray) (k : Nat) (h : k < s.size) : s.data.toList.take (k + 1) = s.data.toList.take k ++ [s[k]] := by
  rw [List.take_succ_eq_append_getElem (by simpa using h)]; rfl
set_option maxRecDepth 100000 in
set_option maxHeartbeats 1000000 in
theorem go_nat (n : Nat) (s : ByteArray) (w : World) (h : n < 4294967296) (hs : s.size ≤ maxLen) :
    Calls Tryz.prog 114 #[.int .u32 (n : Int), .string s] w fun e w' => e = .returned (.int .u32 ((Crc.go n s.data.toList : Nat) : Int)) ∧ w = w' := by
  unfold maxLen at hs
  go_enter Tryz.func114, Tryz.ntmps114
  go_wp2
  go_loop [0, 8] (fun st i => ∃ k q : Nat, k ≤ s.size ∧ i = .int .i64 (k : Int) ∧ q < 4294967296 ∧ q = Crc.go n (s.data.toList.take k) ∧ st = .int .u32 (q : Int)) (fun _ i => s.size - (RowKit.intOf i).toNat)
  case atStart => exact ⟨0, n, by omega, rfl, h, rfl, rfl⟩
  case round =>
    obtain ⟨k, q, hk, rfl, hq, hqe, rfl⟩ := hrel
    have HQ := Lib.hid hqe
    clear hqe
    by_cases hlt : k < s.size
    · have b1 : (0 : Int) ≤ (k : Int) := by omega
      have b2 : (k : Int) < (s.size : Int) := by omega
      have c1 := UInt8.toNat_lt s[k]
      have hx := xor32 q (s[k]).toNat hq (by omega)
      have hxl := Crc.xor_lt (y := (s[k]).toNat) hq (by omega)
      have hnx : Hid (Crc.steps 8 (q ^^^ (s[k]).toNat) = Crc.go n (s.data.toList.take (k + 1))) := Lib.hid (by
        rw [take_snoc s k hlt, Crc.go_snoc, ← HQ.out]; rfl)
      generalize q ^^^ (s[k]).toNat = x at hx hxl hnx
      go_wp2
      go_loop [0, 17] (fun st j => ∃ m y : Nat, m ≤ 8 ∧ j = .int .i64 (m : Int) ∧ y < 4294967296 ∧ y = Crc.steps m x ∧ st = .int .u32 (y : Int)) (fun _ j => 8 - (RowKit.intOf j).toNat)
      case atStart => exact ⟨0, x, by omega, rfl, hxl, rfl, rfl⟩
      case round =>
        obtain ⟨m, y, hm, rfl, hy, hye, rfl⟩ := hrel
        have HY := Lib.hid hye
        clear hye
        by_cases hm8 : m < 8
        · have hyl := Crc.step_lt hy
          go_wp2_with (go_at_call 135; refine (step_nat _ _ (by assumption)).mono ?_; rintro e w' ⟨rfl, rfl⟩)
          go_round
          case rel => exact ⟨m + 1, _, by omega, by go_num, hyl, by rw [Crc.steps_succ, HY.out], rfl⟩
          case measure => simp [RowKit.intOf]; omega
        · obtain rfl : m = 8 := by omega
          go_wp2
          go_round
          case rel => exact ⟨k + 1, y, by omega, by go_num, hy, by rw [← hnx.out, HY.out], rfl⟩
          case measure => simp [RowKit.intOf]; omega
    · obtain rfl : k = s.size := by omega
      go_wp2
      go_ret
      exact ⟨by rw [show Crc.go n s.data.toList = q by rw [HQ.out, List.take_of_length_le (by simp)]]; rfl, rfl⟩
theorem go_any (n : Int) (s : ByteArray) (w : World) (h0 : 0 ≤ n) (h : n < 4294967296) (hs : s.size ≤ maxLen) :
    Calls Tryz.prog 114 #[.int .u32 n, .string s] w fun e w' => e = .returned (.int .u32 ((Crc.go n.toNat s.data.toList : Nat) : Int)) ∧ w = w' := by
  obtain ⟨n, rfl⟩ := Int.eq_ofNat_of_zero_le h0
  exact go_nat n s w (by omega) hs
theorem begin_any (w : World) : Calls Tryz.prog 113 #[] w fun e w' => e = .returned (.int .u32 4294967295) ∧ w = w' := by
  go_enter Tryz.func113, Tryz.ntmps113
  go_wp2
  go_ret
  exact ⟨rfl, rfl⟩
theorem end_nat (n : Nat) (w : World) (h : n < 4294967296) :
    Calls Tryz.prog 115 #[.int .u32 (n : Int)] w fun e w' => e = .returned (.int .u32 ((Crc.fin n : Nat) : Int)) ∧ w = w' := by
  have hx : bits .xor .u32 IntKind.u32.max (n : Int) = ((Crc.fin n : Nat) : Int) := by
    have := xor32 4294967295 n (by decide) h
    rw [Nat.xor_comm] at this
    exact this
  go_enter Tryz.func115, Tryz.ntmps115
  go_wp2
  go_ret
  exact ⟨rfl, rfl⟩
theorem end_any (n : Int) (w : World) (h0 : 0 ≤ n) (h : n < 4294967296) :
    Calls Tryz.prog 115 #[.int .u32 n] w fun e w' => e = .returned (.int .u32 ((Crc.fin n.toNat : Nat) : Int)) ∧ w = w' := by
  obtain ⟨n, rfl⟩ := Int.eq_ofNat_of_zero_le h0
  exact end_nat n w (by omega)
theorem sum_any (s : ByteArray) (w : World) (hs : s.size ≤ maxLen) :
    Calls Tryz.prog 122 #[.string s] w fun e w' => e = .returned (.int .u32 ((Crc.sum s.data.toList : Nat) : Int)) ∧ w = w' := by
  have hl := Crc.go_lt (s := 4294967295) (by decide) s.data.toList
  go_enter Tryz.func122, Tryz.ntmps122
  go_wp2_with (first
    | (go_at_call 113; refine (begin_any _).mono ?_; rintro e w' ⟨rfl, rfl⟩)
    | (go_at_call 114; refine (go_any 4294967295 _ _ (by decide) (by decide) hs).mono ?_; rintro e w' ⟨rfl, rfl⟩)
    | (go_at_call 115; refine (end_any _ _ (by omega) (by omega)).mono ?_; rintro e w' ⟨rfl, rfl⟩))
  go_ret
  exact ⟨rfl, rfl⟩
end Go.Proofs.YtfadglcpapiklaaGreatDoor
end
section
namespace Go.Proofs.YtfadglcpapiklaaGreatDoor
open Go.RowKit
set_option linter.unusedVariables false
set_option linter.unusedSimpArgs false

set_option maxRecDepth 100000 in
theorem turned_nat (n : Nat) (w : World) (h : n < 4294967296) :
    Calls Tryz.prog 133 #[.int .i64 (n : Int)] w fun e w' => e = .returned (.int .i64 ((Crc.rv 32 n : Nat) : Int)) ∧ w = w' := by
  go_enter Tryz.func133, Tryz.ntmps133
  go_wp2
  go_loop [0, 3, 4] (fun x o i => ∃ k X O : Nat, k ≤ 32 ∧ i = .int .i64 (k : Int) ∧ X < 4294967296 ∧ O < 4294967296 ∧ X = n / 2 ^ k ∧ O = Crc.rv k n ∧ x = .int .i64 (X : Int) ∧ o = .int .i64 (O : Int)) (fun _ _ i => (32 - RowKit.intOf i).toNat)
  case atStart => exact ⟨0, n, 0, by omega, rfl, h, by omega, by simp, rfl, rfl, rfl⟩
  case round =>
    obtain ⟨k, X, O, hk, rfl, hX, hO, eX, eO, rfl, rfl⟩ := hrel
    by_cases hlt : k < 32
    · have hl := Crc.rv_lt n (k + 1)
      have hle : 2 ^ (k + 1) ≤ 2 ^ 32 := Nat.pow_le_pow_right (by decide) (by omega)
      have e1 : X / 2 = n / 2 ^ (k + 1) := by rw [eX, Nat.div_div_eq_div_mul, Nat.pow_succ]
      have e2 : 2 * O + X % 2 = Crc.rv (k + 1) n := by rw [eX, eO]; rfl
      have e3 : 2 * O + X % 2 < 4294967296 := by omega
      have E := Lib.hid (show _ ∧ _ from ⟨e1, e2⟩)
      clear e1 e2 eX eO hl hle
      go_wp2
      go_round
      case rel => exact ⟨k + 1, X / 2, 2 * O + X % 2, by omega, by go_num, by omega, e3, E.out.1, E.out.2, by go_num, by go_num⟩
      case measure => simp [RowKit.intOf]; omega
    · obtain rfl : k = 32 := by omega
      have E := Lib.hid eO
      clear eX eO
      go_wp2
      go_ret
      exact ⟨by rw [← E.out]; rfl, rfl⟩
theorem turned_any (n : Int) (w : World) (h0 : 0 ≤ n) (h : n < 4294967296) :
    Calls Tryz.prog 133 #[.int .i64 n] w fun e w' => e = .returned (.int .i64 ((Crc.rv 32 n.toNat : Nat) : Int)) ∧ w = w' := by
  obtain ⟨n, rfl⟩ := Int.eq_ofNat_of_zero_le h0
  exact turned_nat n w (by omega)

theorem Tryz.infoIc : (Tryz.prog.info? 3).map (fun i => (i.zero, i.size, i.bytes)) = some (some (.int .i64 0), 1, 8) := by kernel_rfl
def bitsTo (l : List UInt8) (n : Nat) : List Value := (List.range n).map fun i => .int .i64 ((Crc.bitAt l i : Nat) : Int)
theorem bitsTo_succ (l : List UInt8) (n : Nat) : bitsTo l (n + 1) = bitsTo l n ++ [.int .i64 ((Crc.bitAt l n : Nat) : Int)] := by simp [bitsTo, List.range_succ]
set_option maxRecDepth 100000 in
set_option maxHeartbeats 1000000 in
theorem bits_any (s : ByteArray) (w : World) (hs : s.size ≤ 3000) :
    Calls Tryz.prog 134 #[.string s] w fun e w' => ∃ v, e = .returned v ∧ w'.ownsRow w.heap.size 3 1 v (8 * s.size) (bitsTo s.data.toList (8 * s.size)) ∧ Below w.heap.size w w' := by
  obtain ⟨i0, hi, hz0, hz1, hz2⟩ := info_parts Tryz.infoIc
  go_enter Tryz.func134, Tryz.ntmps134
  go_wp2
  go_loopw [3, 4] (fun v i wr => ∃ k : Nat, k ≤ s.size ∧ i = .int .i64 (k : Int) ∧ wr.ownsRow w.heap.size 3 1 v (8 * k) (bitsTo s.data.toList (8 * k)) ∧ Below w.heap.size w wr) (fun _ i _ => s.size - (RowKit.intOf i).toNat)
  case atStart => exact ⟨0, by omega, rfl, World.ownsRow_nil _ _ _ _, Below.refl _ _⟩
  case round =>
    obtain ⟨k, hk, rfl, hown, hbel⟩ := hrel
    by_cases hlt : k < s.size
    · have b1 : (0 : Int) ≤ (k : Int) := by omega
      have b2 : (k : Int) < (s.size : Int) := by omega
      have c1 := UInt8.toNat_lt s[k]
      have hbit : ∀ m, m < 8 → (s[k]).toNat / 2 ^ m % 2 = Crc.bitAt s.data.toList (8 * k + m) := fun m hm => by
        unfold Crc.bitAt
        rw [crc_byte_get s k hlt, show (8 * k + m) / 8 = k by omega, show (8 * k + m) % 8 = m by omega]
      have HB := Lib.hid hbit
      clear hbit
      obtain ⟨wo, rfl⟩ : ∃ wo : World, wo = wr := ⟨_, rfl⟩
      go_wp2
      go_loopw [3, 5, 6] (fun v n j wr => ∃ m X : Nat, m ≤ 8 ∧ X < 256 ∧ j = .int .i64 (m : Int) ∧ n = .int .i64 (X : Int) ∧ X = (s[k]).toNat / 2 ^ m ∧ wr.ownsRow w.heap.size 3 1 v (8 * k + m) (bitsTo s.data.toList (8 * k + m)) ∧ Below w.heap.size w wr) (fun _ _ j _ => 8 - (RowKit.intOf j).toNat)
      case atStart => exact ⟨0, (s[k]).toNat, by omega, by omega, rfl, rfl, by simp, hown, hbel⟩
      case round =>
        obtain ⟨m, X, hm, hX, rfl, rfl, eX, hown1, hbel1⟩ := hrel
        have hsz := hbel1.size
        by_cases hm8 : m < 8
        · have e1 : Hid (X / 2 = (s[k]).toNat / 2 ^ (m + 1)) := Lib.hid (by rw [eX, Nat.div_div_eq_div_mul, Nat.pow_succ])
          have e2 : Hid (((X : Int) % 2) = ((Crc.bitAt s.data.toList (8 * k + m) : Nat) : Int)) := Lib.hid (by rw [← HB.out m hm8, ← eX]; omega)
          clear eX
          go_wp2_with (at_builtin; refine wpList_append_own _ rfl _ _ 24 rfl w.heap.size 3 i0 (.int .i64 0) 1 8 Tryz.underlying24 hi hz0 hz1 hz2 rfl (by decide) _ _ _ rfl (hown1.alloc _) ⟨wr.heap.size, 0, none⟩ 1 1 [.int .i64 ((X : Int) % 2)] rfl rfl ?c1 ?c2 ?c3 ?c4 ?c5 ?_)
          case c1 =>
            intro j u hj
            match j, hj with
            | 0, hj => simp at hj; subst hj; simp [Addr.add]
          case c2 => intro u hu; simp at hu; subst hu; rfl
          case c3 => unfold maxLen; omega
          case c4 => omega
          case c5 => simp; omega
          · intro v' w1 hown' hgrow _
            rw [e2.out] at hown'
            have hown2 : w1.ownsRow w.heap.size 3 1 v' (8 * k + (m + 1)) (bitsTo s.data.toList (8 * k + (m + 1))) := by
              rw [← Nat.add_assoc, bitsTo_succ]; exact hown'
            have hb2 : Below w.heap.size w w1 := ((hbel1.alloc (by omega) _)).grown hgrow (by simp; omega) (fun q hq => (hown1.lt q hq).1)
            clear hown' hgrow
            go_wp2
            go_roundw
            case rel => exact ⟨m + 1, X / 2, by omega, by omega, by go_num, by go_num, e1.out, hown2, hb2⟩
            case measure => simp [RowKit.intOf]; omega
        · obtain rfl : m = 8 := by omega
          go_wp2
          go_roundw
          case rel => exact ⟨k + 1, by omega, by go_num, by rw [show 8 * (k + 1) = 8 * k + 8 by omega]; exact hown1, hbel1⟩
          case measure => simp [RowKit.intOf]; omega
    · obtain rfl : k = s.size := by omega
      go_wp2
      go_ret
      exact ⟨_, rfl, hown, hbel⟩

theorem own_cell {w : World} {B n : Nat} {g cap : Nat} {E : TypeId} {xs : List Value} (h : w.ownsRow B E 1 (.slice (some ⟨g, 0, none⟩) n cap) n xs) (i : Nat) (hi : i < xs.length) : w.cell? ⟨g, i, none⟩ = some (xs.getD i undef) := by
  obtain ⟨hl, hv⟩ := h
  rcases hv with ⟨hx, _⟩ | ⟨g', cap', cur, hx, hb, hg, hn, hm, hs, ht⟩
  · cases hx
  · cases hx
    have e := congrArg (·[i]?) ht
    simp only [List.getElem?_take, Nat.mul_one] at e
    rw [if_pos (by omega), List.getElem?_eq_getElem hi] at e
    simp only [World.cell?, hg]
    rw [List.getD_eq_getElem?_getD, List.getElem?_eq_getElem hi]
    simpa using e
theorem bitsTo_getD (l : List UInt8) (n i : Nat) (h : i < n) : (bitsTo l n).getD i undef = .int .i64 ((Crc.bitAt l i : Nat) : Int) := by
  simp [bitsTo, List.getD_eq_getElem?_getD, h]
theorem bitsTo_length (l : List UInt8) (n : Nat) : (bitsTo l n).length = n := by simp [bitsTo]
theorem xor64d (a : Nat) (h1 : a < 4294967296) : bits .xor .i64 (a : Int) 517762881 = ((a ^^^ 517762881 : Nat) : Int) := by
  have hl := Crc.xor_lt h1 (show 517762881 < 4294967296 by decide)
  have e : (BitVec.ofNat 64 a ^^^ BitVec.ofNat 64 517762881).toNat = a ^^^ 517762881 := by
    rw [BitVec.toNat_xor, BitVec.toNat_ofNat, BitVec.toNat_ofNat, Nat.mod_eq_of_lt (by omega : a < 2 ^ 64), Nat.mod_eq_of_lt (by decide)]
  have e2 : bits .xor .i64 (a : Int) 517762881 = IntKind.i64.wrap (((BitVec.ofNat 64 a ^^^ BitVec.ofNat 64 517762881).toNat : Nat) : Int) := by
    have ea : BitVec.ofInt 64 (a : Int) = BitVec.ofNat 64 a := BitVec.ofInt_natCast 64 a
    rw [← ea]; rfl
  rw [e2, e]
  exact IntWalk.i64_in _ ⟨by omega, by omega⟩
theorem dstep_lt {r l : Nat} (h : r < 4294967296) : Crc.dstep r l < 4294967296 := by
  unfold Crc.dstep
  split
  · omega
  · exact Crc.xor_lt (by omega) (by decide)
theorem rv_lt32 (n : Nat) : Crc.rv 32 n < 4294967296 := Crc.rv_lt n 32

set_option maxRecDepth 100000 in
set_option maxHeartbeats 2000000 in
theorem rgo_nat (n : Nat) (s : ByteArray) (w : World) (h : n < 4294967296) (hs : s.size ≤ 3000) :
    Calls Tryz.prog 101 #[.int .u32 (n : Int), .string s] w fun e w' => e = .returned (.int .u32 ((Crc.go n s.data.toList : Nat) : Int)) ∧ Below w.heap.size w w' := by
  have hr := rv_lt32 n
  have hfin := Lib.hid (Crc.dgo_go h s.data.toList)
  go_enter Tryz.func101, Tryz.ntmps101
  go_wp2_with (go_at_call 133; refine (turned_any _ _ (by omega) (by omega)).mono ?_; rintro e w' ⟨rfl, rfl⟩)
  refine (bits_any s _ hs).mono ?_
  rintro e w1 ⟨v, rfl, hown, hbel⟩
  have hown' := hown
  obtain ⟨hl, hv⟩ := hown
  rcases hv with ⟨rfl, h0⟩ | ⟨g, cap, cur, rfl, hb, hg, hn, hm, hs', ht⟩
  · have hs0 : s.size = 0 := by omega
    have hnil : Hid (s.data.toList = []) := Lib.hid (List.eq_nil_of_length_eq_zero (by simpa using hs0))
    clear hl hown'
    go_wp2
    go_loop [5, 7] (fun r i => i = .int .i64 0 ∧ r = .int .i64 ((Crc.rv 32 n : Nat) : Int)) (fun _ _ => 0)
    case atStart => exact ⟨rfl, rfl⟩
    case round =>
      obtain ⟨rfl, rfl⟩ := hrel
      have hz : Hid (Crc.rv 32 (Crc.rv 32 n) = Crc.go n s.data.toList) := Lib.hid (by rw [hnil.out, Crc.rv_rv h]; rfl)
      have hrr := rv_lt32 (Crc.rv 32 n)
      go_wp2_with (go_at_call 133; refine (turned_any _ _ (by omega) (by omega)).mono ?_; rintro e w' ⟨rfl, rfl⟩)
      go_ret
      exact ⟨by rw [← hz.out]; rfl, hbel⟩
  · clear hl hb hg hn hm hs' ht
    have HO := Lib.hid hown'
    clear hown'
    go_wp2
    go_loop [5, 7] (fun r i => ∃ k R : Nat, k ≤ 8 * s.size ∧ i = .int .i64 (k : Int) ∧ R < 4294967296 ∧ R = Crc.dgo (Crc.rv 32 n) (Crc.bitAt s.data.toList) k ∧ r = .int .i64 (R : Int)) (fun _ i => 8 * s.size - (RowKit.intOf i).toNat)
    case atStart => exact ⟨0, _, by omega, rfl, hr, rfl, rfl⟩
    case round =>
      obtain ⟨k, R, hk, rfl, hR, eR, rfl⟩ := hrel
      by_cases hlt : k < 8 * s.size
      · have hc := own_cell HO.out k (by rw [bitsTo_length]; exact hlt)
        rw [bitsTo_getD _ _ _ hlt] at hc
        have hbl := Crc.bitAt_lt s.data.toList k
        have hnx : Crc.dstep R (Crc.bitAt s.data.toList k) = Crc.dgo (Crc.rv 32 n) (Crc.bitAt s.data.toList) (k + 1) := by rw [Crc.dgo, ← eR]
        have hdl := dstep_lt (l := Crc.bitAt s.data.toList k) hR
        have hx := xor64d (2 * (R % 2147483648)) (by omega)
        rw [show ((2 * (R % 2147483648) : Nat) : Int) = 2 * ((R : Int) % 2147483648) by omega] at hx
        generalize Crc.bitAt s.data.toList k = l at hc hbl hnx hdl
        have b1 : (0 : Int) ≤ (k : Int) := by omega
        have b2 : (k : Int) < ((8 * s.size : Nat) : Int) := by omega
        by_cases he : R / 2147483648 = l
        · have t1 : ((R : Int) / 2147483648 != (l : Int)) = false := by rw [bne_eq_false_iff_eq]; omega
          have hd : Crc.dstep R l = 2 * (R % 2147483648) := by unfold Crc.dstep; rw [if_pos he]
          have E := Lib.hid (show _ ∧ _ from ⟨hnx, hd⟩)
          have HD := Lib.hid hdl
          clear hnx hd hdl he eR hx
          go_wp2
          go_round
          case rel => exact ⟨k + 1, _, by omega, by go_num, HD.out, E.out.1, by rw [E.out.2]; go_num⟩
          case measure => simp [RowKit.intOf]; omega
        · have t1 : ((R : Int) / 2147483648 != (l : Int)) = true := by rw [bne_iff_ne]; omega
          have hd : Crc.dstep R l = 2 * (R % 2147483648) ^^^ 517762881 := by unfold Crc.dstep; rw [if_neg he]
          have E := Lib.hid (show _ ∧ _ from ⟨hnx, hd⟩)
          have HD := Lib.hid hdl
          clear hnx hd hdl he eR
          go_wp2
          go_round
          case rel => exact ⟨k + 1, _, by omega, by go_num, HD.out, E.out.1, by rw [E.out.2]⟩
          case measure => simp [RowKit.intOf]; omega
      · obtain rfl : k = 8 * s.size := by omega
        have hz : Hid (Crc.rv 32 R = Crc.go n s.data.toList) := Lib.hid (by rw [← hfin.out, eR]; simp)
        have hrr := rv_lt32 R
        clear eR
        go_wp2_with (go_at_call 133; refine (turned_any _ _ (by omega) (by omega)).mono ?_; rintro e w' ⟨rfl, rfl⟩)
        go_ret
        exact ⟨by rw [← hz.out]; rfl, hbel⟩
theorem rgo_any (n : Int) (s : ByteArray) (w : World) (h0 : 0 ≤ n) (h : n < 4294967296) (hs : s.size ≤ 3000) :
    Calls Tryz.prog 101 #[.int .u32 n, .string s] w fun e w' => e = .returned (.int .u32 ((Crc.go n.toNat s.data.toList : Nat) : Int)) ∧ Below w.heap.size w w' := by
  obtain ⟨n, rfl⟩ := Int.eq_ofNat_of_zero_le h0
  exact rgo_nat n s w (by omega) hs
theorem rbegin_any (w : World) : Calls Tryz.prog 100 #[] w fun e w' => e = .returned (.int .u32 4294967295) ∧ w = w' := by
  go_enter Tryz.func100, Tryz.ntmps100
  go_wp2
  go_ret
  exact ⟨rfl, rfl⟩
theorem fin_sub (n : Nat) (h : n < 4294967296) : Crc.fin n = 4294967295 - n := by
  unfold Crc.fin
  have e : (BitVec.ofNat 32 n ^^^ BitVec.allOnes 32).toNat = n ^^^ 4294967295 := by
    rw [BitVec.toNat_xor, BitVec.toNat_ofNat, Nat.mod_eq_of_lt (by omega)]; rfl
  rw [← e, BitVec.xor_allOnes, BitVec.toNat_not, BitVec.toNat_ofNat, Nat.mod_eq_of_lt (by omega)]
theorem rend_nat (n : Nat) (w : World) (h : n < 4294967296) :
    Calls Tryz.prog 102 #[.int .u32 (n : Int)] w fun e w' => e = .returned (.int .u32 ((Crc.fin n : Nat) : Int)) ∧ w = w' := by
  have hf := Lib.hid (fin_sub n h)
  go_enter Tryz.func102, Tryz.ntmps102
  go_wp2
  go_ret
  exact ⟨by rw [show ((Crc.fin n : Nat) : Int) = 4294967295 - (n : Int) by have := hf.out; omega]; rfl, rfl⟩
theorem rend_any (n : Int) (w : World) (h0 : 0 ≤ n) (h : n < 4294967296) :
    Calls Tryz.prog 102 #[.int .u32 n] w fun e w' => e = .returned (.int .u32 ((Crc.fin n.toNat : Nat) : Int)) ∧ w = w' := by
  obtain ⟨n, rfl⟩ := Int.eq_ofNat_of_zero_le h0
  exact rend_nat n w (by omega)
theorem rsum_any (s : ByteArray) (w : World) (hs : s.size ≤ 3000) :
    Calls Tryz.prog 69 #[.string s] w fun e w' => e = .returned (.int .u32 ((Crc.sum s.data.toList : Nat) : Int)) ∧ Below w.heap.size w w' := by
  have hl := Crc.go_lt (s := 4294967295) (by decide) s.data.toList
  go_enter Tryz.func69, Tryz.ntmps69
  go_wp2_with (first
    | (go_at_call 100; refine (rbegin_any _).mono ?_; rintro e w' ⟨rfl, rfl⟩)
    | (go_at_call 101; refine (rgo_any 4294967295 _ _ (by decide) (by decide) hs).mono ?_; rintro e w' ⟨rfl, hbel⟩)
    | (go_at_call 102; refine (rend_any _ _ (by omega) (by omega)).mono ?_; rintro e w' ⟨rfl, rfl⟩))
  go_ret
  exact ⟨rfl, hbel⟩
end Go.Proofs.YtfadglcpapiklaaGreatDoor
end
section
namespace Go.Proofs.YtfadglcpapiklaaGreatDoor.Sec
open Pk
set_option linter.unusedVariables false
set_option linter.unusedSimpArgs false

/-- What is summed up of a sector. -/
def headL (id slot at_ : Nat) (p : List UInt8) : List UInt8 := padL p 120 ++ be 2 id ++ be 1 slot ++ be 1 at_
def secL (id slot at_ : Nat) (p : List UInt8) : List UInt8 := headL id slot at_ p ++ be 4 (Crc.sum (headL id slot at_ p))
theorem head_length {p : List UInt8} (id slot at_ : Nat) (h : p.length ≤ 120) : (headL id slot at_ p).length = 124 := by
  simp [headL, be_length, pad_length h]
theorem sec_length {p : List UInt8} (id slot at_ : Nat) (h : p.length ≤ 120) : (secL id slot at_ p).length = 128 := by
  simp [secL, be_length, head_length _ _ _ h]
theorem head_take {p : List UInt8} (id slot at_ : Nat) (h : p.length ≤ 120) : (headL id slot at_ p).take 120 = padL p 120 := by
  rw [headL, List.append_assoc, List.append_assoc, List.take_append_of_le_length (by rw [pad_length h]; omega), List.take_of_length_le (by rw [pad_length h]; omega)]
theorem sec_head {p : List UInt8} (id slot at_ : Nat) (h : p.length ≤ 120) : (secL id slot at_ p).take 124 = headL id slot at_ p := by
  rw [secL, List.take_append_of_le_length (by rw [head_length _ _ _ h]; omega), List.take_of_length_le (by rw [head_length _ _ _ h]; omega)]
theorem sec_take {p : List UInt8} (id slot at_ : Nat) (h : p.length ≤ 120) : (secL id slot at_ p).take 120 = padL p 120 := by
  rw [← head_take id slot at_ h, ← sec_head id slot at_ h, List.take_take]; rfl
theorem sec_pad {p : List UInt8} (id slot at_ : Nat) (h : p.length ≤ 120) : secL id slot at_ (padL p 120) = secL id slot at_ p := by
  rw [secL, secL, headL, headL, pad_pad h]
theorem sum_lt (l : List UInt8) : Crc.sum l < 256 ^ 4 := Crc.fin_lt (Crc.go_lt (by decide) l)
theorem head_inj {i j l m a b : Nat} {p q : List UInt8} (hp : p.length ≤ 120) (hq : q.length ≤ 120) (hi : i < 65536) (hj : j < 65536) (hl : l < 256) (hm : m < 256) (ha : a < 256) (hb : b < 256)
    (h : headL i l a p = headL j m b q) : i = j ∧ l = m ∧ a = b ∧ padL p 120 = padL q 120 := by
  unfold headL at h
  obtain ⟨h, h4⟩ := List.append_inj h (by simp [be_length, pad_length hp, pad_length hq])
  obtain ⟨h, h3⟩ := List.append_inj h (by simp [be_length, pad_length hp, pad_length hq])
  obtain ⟨h1, h2⟩ := List.append_inj h (by simp [pad_length hp, pad_length hq])
  exact ⟨be_inj (w := 2) (by omega) (by omega) h2, be_inj (w := 1) (by omega) (by omega) h3, be_inj (w := 1) (by omega) (by omega) h4, h1⟩
theorem sec_inj {i j l m a b : Nat} {p q : List UInt8} (hp : p.length ≤ 120) (hq : q.length ≤ 120) (hi : i < 65536) (hj : j < 65536) (hl : l < 256) (hm : m < 256) (ha : a < 256) (hb : b < 256) :
    secL i l a p = secL j m b q ↔ i = j ∧ l = m ∧ a = b ∧ padL p 120 = padL q 120 := by
  constructor
  · intro h
    have h' := congrArg (List.take 124) h
    rw [sec_head _ _ _ hp, sec_head _ _ _ hq] at h'
    exact head_inj hp hq hi hj hl hm ha hb h'
  · rintro ⟨rfl, rfl, rfl, h⟩
    rw [← sec_pad _ _ _ hp, h, sec_pad _ _ _ hq]
/-- For whom a sealed sector opens. -/
theorem sec_opens {i j l m a b : Nat} {p : List UInt8} (hp : p.length ≤ 120) (hi : i < 65536) (hj : j < 65536) (hl : l < 256) (hm : m < 256) (ha : a < 256) (hb : b < 256) :
    secL j m b ((secL i l a p).take 120) = secL i l a p ↔ j = i ∧ m = l ∧ b = a := by
  rw [sec_take _ _ _ hp, sec_pad _ _ _ hp, sec_inj hp hp hj hi hm hl hb ha]
  exact ⟨fun h => ⟨h.1, h.2.1, h.2.2.1⟩, fun h => ⟨h.1, h.2.1, h.2.2, rfl⟩⟩
theorem byte_bits {a b : UInt8} (h : ∀ k, k < 8 → a.toNat / 2 ^ k % 2 = b.toNat / 2 ^ k % 2) : a = b := by
  rw [← UInt8.toNat_inj]
  apply Nat.eq_of_testBit_eq
  intro k
  rcases Nat.lt_or_ge k 8 with hk | hk
  · rw [Nat.testBit_eq_decide_div_mod_eq, Nat.testBit_eq_decide_div_mod_eq, h k hk]
  · have hp : 256 ≤ 2 ^ k := Nat.le_trans (show 256 ≤ 2 ^ 8 by decide) (Nat.pow_le_pow_right (by decide) hk)
    have h1 := a.toNat_lt
    have h2 := b.toNat_lt
    rw [Nat.testBit_lt_two_pow (Nat.lt_of_lt_of_le h1 hp), Nat.testBit_lt_two_pow (Nat.lt_of_lt_of_le h2 hp)]
/-- A text of which up to four bytes that stand side by side are others has another sum. -/
theorem sum_window {A B : List UInt8} {k : Nat} (hl : A.length = B.length) (hw : ∀ j, j < k ∨ k + 4 ≤ j → A.getD j 0 = B.getD j 0) (h : Crc.sum A = Crc.sum B) : A = B := by
  have e := Crc.fin_inj h
  rw [Crc.go_bits, Crc.go_bits, hl] at e
  have hs := Crc.run_same (a := 8 * k) (by decide) (Crc.bitAt_lt A) (Crc.bitAt_lt B)
    (fun i hi => by unfold Crc.bitAt; rw [hw (i / 8) (.inl (by omega))])
    (fun i hi => by unfold Crc.bitAt; rw [hw (i / 8) (.inr (by omega))]) e
  apply List.ext_getElem hl
  intro j h1 h2
  apply byte_bits
  intro q hq
  have := hs (8 * j + q) (by omega)
  unfold Crc.bitAt at this
  rw [show (8 * j + q) / 8 = j by omega, show (8 * j + q) % 8 = q by omega, List.getD_eq_getElem?_getD, List.getD_eq_getElem?_getD, List.getElem?_eq_getElem h1, List.getElem?_eq_getElem h2] at this
  exact this
/-- A sector that was turned does not open. -/
theorem sec_turned {i l a : Nat} {p T : List UInt8} {k : Nat} (hp : p.length ≤ 120) (hT : T.length = 128) (hk : k ≤ 120 ∨ k = 124)
    (hw : ∀ j, j < k ∨ k + 4 ≤ j → T.getD j 0 = (secL i l a p).getD j 0) (hne : T ≠ secL i l a p) : secL i l a (T.take 120) ≠ T := by
  intro h
  have hS := sec_length i l a hp
  have h20 : (T.take 120).length ≤ 120 := by simp; omega
  have gt : ∀ (X : List UInt8) (n j : Nat), j < n → (X.take n).getD j 0 = X.getD j 0 := fun X n j hj => by
    rw [List.getD_eq_getElem?_getD, List.getElem?_take, if_pos hj, ← List.getD_eq_getElem?_getD]
  rcases hk with hk | rfl
  · have e1 : T.take 124 = headL i l a (T.take 120) := by rw [← sec_head i l a h20, h]
    have e2 : (secL i l a p).take 124 = headL i l a p := sec_head i l a hp
    have d : T.drop 124 = (secL i l a p).drop 124 := by
      apply List.ext_getElem
      · simp [hT, hS]
      · intro j h1 h2
        have h1' : j < 4 := by simp [hT] at h1; omega
        have := hw (124 + j) (.inr (by omega))
        rw [List.getD_eq_getElem?_getD, List.getD_eq_getElem?_getD, List.getElem?_eq_getElem (by omega), List.getElem?_eq_getElem (by omega)] at this
        simpa using this
    have d1 : T.drop 124 = be 4 (Crc.sum (T.take 124)) := by
      have : (secL i l a (T.take 120)).drop 124 = be 4 (Crc.sum (headL i l a (T.take 120))) := by
        rw [secL, List.drop_append_of_le_length (by rw [head_length _ _ _ h20]; omega), List.drop_of_length_le (by rw [head_length _ _ _ h20]; omega), List.nil_append]
      rw [h] at this
      rw [this, e1]
    have d2 : (secL i l a p).drop 124 = be 4 (Crc.sum ((secL i l a p).take 124)) := by
      rw [e2, secL, List.drop_append_of_le_length (by rw [head_length _ _ _ hp]; omega), List.drop_of_length_le (by rw [head_length _ _ _ hp]; omega), List.nil_append]
    rw [d1, d2] at d
    have hs := be_inj (sum_lt _) (sum_lt _) d
    have ht := sum_window (k := k) (by simp [hT, hS]) (fun j hj => by
      rcases Nat.lt_or_ge j 124 with h1 | h1
      · rw [gt _ _ _ h1, gt _ _ _ h1]; exact hw j hj
      · rw [List.getD_eq_getElem?_getD, List.getD_eq_getElem?_getD, List.getElem?_eq_none (by simp; omega), List.getElem?_eq_none (by simp; omega)]) hs
    apply hne
    rw [← List.take_append_drop 124 T, ← List.take_append_drop 124 (secL i l a p), ht, d1, d2, ht]
  · apply hne
    have t : T.take 120 = (secL i l a p).take 120 := by
      apply List.ext_getElem
      · simp [hT, hS]
      · intro j h1 h2
        have h1' : j < 120 := by simp at h1; omega
        have := hw j (.inl (by omega))
        rw [List.getD_eq_getElem?_getD, List.getD_eq_getElem?_getD, List.getElem?_eq_getElem (by omega), List.getElem?_eq_getElem (by omega)] at this
        simpa using this
    rw [← h, t, sec_take _ _ _ hp, sec_pad _ _ _ hp]
end Go.Proofs.YtfadglcpapiklaaGreatDoor.Sec
end
section
namespace Go.Proofs.YtfadglcpapiklaaGreatDoor
open Go.RowKit
set_option linter.unusedVariables false
set_option linter.unusedSimpArgs false

theorem below_c' {w0 w w' : World} (h : Below w0.heap.size w0 w) (hb : Below w.heap.size w w') : Below w0.heap.size w0 w' := h.trans (hb.mono h.size)
/-- A list written out. -/
theorem lit_reads (w : World) (E : TypeId) (xs : List Value) : Reads (w.alloc (.cells xs.toArray E)) (.slice (some ⟨w.heap.size, 0, none⟩) xs.length xs.length) xs :=
  .inr ⟨w.heap.size, 0, xs.length, rfl, by simp, fun i hi => by rw [Nat.zero_add, World.cell?_alloc_mark]; simp [List.getD_eq_getElem?_getD, hi]⟩
set_option maxHeartbeats 1000000 in
theorem all_any (v : Value) (l : List Bool) (w : World) (h : Reads w v (l.map .bool)) (hn : l.length ≤ 100) :
    Calls Tryz.prog 119 #[v] w fun e w' => e = .returned (.bool (l.all id)) ∧ w = w' := by
  have hl := fun W => h.len_run (P := Tryz.prog) Tryz.underlying42 3 W
  rw [List.length_map] at hl
  go_enter Tryz.func119, Tryz.ntmps119
  go_wp2_with (fail)
  go_loop [4, 7] (fun _ i => ∃ k : Nat, k ≤ l.length ∧ i = .int .i64 (k : Int) ∧ (l.take k).all id = true) (fun _ i => l.length - (RowKit.intOf i).toNat)
  case atStart => exact ⟨0, by omega, rfl, rfl⟩
  case round =>
    obtain ⟨k, hk, rfl, hal⟩ := hrel
    by_cases hlt : k < l.length
    · have b1 : (k : Int) < (l.length : Int) := by omega
      rcases h with ⟨_, e⟩ | ⟨b, off, cap, rfl, hb, hc⟩
      · have := congrArg List.length e; rw [List.length_map, List.length_nil] at this; omega
      have hck := hc k (by rw [List.length_map]; exact hlt)
      have e0 : (l.map Value.bool).getD k .nilFunc = .bool l[k] := by simp [List.getD_eq_getElem?_getD, hlt]
      rw [e0] at hck
      have b2 : (k : Int) < ((l.map Value.bool).length : Int) := by rw [List.length_map]; exact b1
      have ht : (l.take (k + 1)).all id = ((l.take k).all id && l[k]) := by rw [List.take_succ_eq_append_getElem hlt, List.all_append]; simp
      rw [hal, Bool.true_and] at ht
      cases hb1 : l[k] with
      | true =>
        rw [hb1] at hck ht
        have ht' := Lib.hid ht
        clear ht hb1 hc hal e0
        go_wp2
        go_round
        case rel => exact ⟨k + 1, by omega, by go_num, ht'.out⟩
        case measure => simp [RowKit.intOf]; omega
      | false =>
        have hz : Hid (l.all id = false) := Lib.hid (by
          rw [List.all_eq_false]; exact ⟨l[k], List.getElem_mem hlt, by simp [hb1]⟩)
        rw [hb1] at hck
        clear ht hb1 hc hal e0
        go_wp2
        go_ret
        exact ⟨by rw [hz.out]; rfl, rfl⟩
    · have e : k = l.length := by omega
      subst e
      rw [List.take_length] at hal
      have hz := Lib.hid hal
      clear hal
      go_wp2
      go_ret
      exact ⟨by rw [hz.out]; rfl, rfl⟩
def SaysS (w : World) (s : ByteArray) (e : Ending) (w' : World) : Prop := e = .returned (.string s) ∧ Below w.heap.size w w'
theorem number_any (n width : Int) (w : World) : Calls Tryz.prog 121 #[.int .i64 n, .int .i64 width] w (SaysS w (numL n width)) := by
  have hn := fun W => num_any n width W
  generalize numL n width = s at *
  generalize numE n width = m at *
  go_enter Tryz.func121, Tryz.ntmps121
  go_wp2_with (fail)
  refine (hn _).mono ?_
  rintro e w1 ⟨rfl, hb⟩
  go_wp2_with (fail)
  go_ret
  exact ⟨rfl, hb⟩
theorem numL_nat (n W : Nat) (h1 : 1 ≤ W) (h2 : W ≤ 7) (h : n < 256 ^ W) : numL (n : Int) (W : Int) = lineOf (Pk.be W n) := by
  have hb : numB (n : Int) (W : Int) = true := by unfold numB; rw [decide_eq_true_eq]; exact ⟨by omega, by omega, by omega, by simpa using h⟩
  rw [numL, if_pos hb, show ((W : Int)).toNat = W by omega, show ((n : Int)).toNat = n by omega]
theorem number_nat (n W : Nat) (w : World) (h1 : 1 ≤ W) (h2 : W ≤ 7) (h : n < 256 ^ W) : Calls Tryz.prog 121 #[.int .i64 (n : Int), .int .i64 (W : Int)] w (SaysS w (lineOf (Pk.be W n))) := by
  have := number_any (n : Int) (W : Int) w
  rw [numL_nat n W h1 h2 h] at this
  exact this
def sealOk (id slot at_ : Int) (p : ByteArray) : Bool := decide (1 ≤ id ∧ id ≤ 65535 ∧ 0 ≤ slot ∧ slot ≤ 6 ∧ 0 ≤ at_ ∧ at_ ≤ 255 ∧ (p.size : Int) ≤ 120)
def secS (i l a : Nat) (p : ByteArray) : ByteArray := lineOf (Sec.secL i l a p.data.toList)
def sealL (id slot at_ : Int) (p : ByteArray) : ByteArray := if sealOk id slot at_ p then secS id.toNat slot.toNat at_.toNat p else ⟨#[]⟩
def sealE (id slot at_ : Int) (p : ByteArray) : Int := if sealOk id slot at_ p then 0 else 60
theorem seal_bad (w : World) (id slot at_ : Int) (p : ByteArray) (h : Hid (sealOk id slot at_ p = false)) (W : World) (hb : Below w.heap.size w W) : Tells2 w (sealL id slot at_ p) (sealE id slot at_ p) (.returned (.tuple #[.string ⟨#[]⟩, .int .i64 60])) W :=
  ⟨by rw [sealL, sealE, h.out]; rfl, hb⟩
theorem seal_good {i l a : Nat} {p : ByteArray} (h1 : 1 ≤ i) (h2 : i ≤ 65535) (h3 : l ≤ 6) (h4 : a ≤ 255) (h5 : p.size ≤ 120) : sealL (i : Int) (l : Int) (a : Int) p = secS i l a p ∧ sealE (i : Int) (l : Int) (a : Int) p = 0 := by
  have hb : sealOk (i : Int) (l : Int) (a : Int) p = true := by unfold sealOk; rw [decide_eq_true_eq]; omega
  rw [sealL, sealE, if_pos hb, if_pos hb]; exact ⟨rfl, rfl⟩
/-- The parts of a sector, put together. -/
theorem sec_parts (i l a : Nat) (p : ByteArray) :
    padB p 120 ++ lineOf (Pk.be 2 i) ++ lineOf (Pk.be 1 l) ++ lineOf (Pk.be 1 a) = lineOf (Sec.headL i l a p.data.toList) ∧
    lineOf (Sec.headL i l a p.data.toList) ++ lineOf (Pk.be 4 (Crc.sum (Sec.headL i l a p.data.toList))) = secS i l a p := by
  constructor
  · rw [line_append, line_append, line_append, padB, list_lineOf, list_lineOf, list_lineOf]; rfl
  · rw [line_append, list_lineOf]; rfl
set_option maxRecDepth 100000 in
set_option maxHeartbeats 2000000 in
theorem seal_right (i l a : Nat) (p : ByteArray) (w : World) (h1 : 1 ≤ i) (h2 : i ≤ 65535) (h3 : l ≤ 6) (h4 : a ≤ 255) (h5 : p.size ≤ 120) :
    Calls Tryz.prog 88 #[.int .i64 (i : Int), .int .i64 (l : Int), .int .i64 (a : Int), .string p] w (Tells2 w (secS i l a p) 0) := by
  have t1 : decide ((1 : Int) ≤ (i : Int)) = true := by rw [decide_eq_true_eq]; omega
  have t2 : decide ((i : Int) ≤ 65535) = true := by rw [decide_eq_true_eq]; omega
  have t3 : decide ((0 : Int) ≤ (l : Int)) = true := by rw [decide_eq_true_eq]; omega
  have t4 : decide ((l : Int) ≤ 6) = true := by rw [decide_eq_true_eq]; omega
  have t5 : decide ((0 : Int) ≤ (a : Int)) = true := by rw [decide_eq_true_eq]; omega
  have t6 : decide ((a : Int) ≤ 255) = true := by rw [decide_eq_true_eq]; omega
  have t7 : decide ((p.size : Int) ≤ 120) = true := by rw [decide_eq_true_eq]; omega
  have hal := fun W v h => all_any v [true, true, true, true, true, true, true] W h (by decide)
  rw [show [true, true, true, true, true, true, true].all id = true from rfl] at hal
  have hfl := fun W => fill_any p 120 W (by omega)
  obtain ⟨g1, g2⟩ := fill_good w p 120 (by omega) h5
  rw [show ((120 : Nat) : Int) = 120 from rfl] at g1 g2
  rw [g1, g2] at hfl
  have n1 := fun W => number_nat i 2 W (by decide) (by decide) (by omega)
  have n2 := fun W => number_nat l 1 W (by decide) (by decide) (by omega)
  have n3 := fun W => number_nat a 1 W (by decide) (by decide) (by omega)
  have hcs : Crc.sum (Sec.headL i l a p.data.toList) < 4294967296 := Sec.sum_lt _
  have n4 := fun W => number_nat (Crc.sum (Sec.headL i l a p.data.toList)) 4 W (by decide) (by decide) hcs
  have hsm := fun W h => sum_any (lineOf (Sec.headL i l a p.data.toList)) W h
  rw [list_lineOf] at hsm
  obtain ⟨q1, q2⟩ := sec_parts i l a p
  have z1 : (padB p 120).size ≤ 120 := by rw [padB, lineOf_size, Pk.pad_length (by simpa using h5)]; omega
  have z2 : (lineOf (Pk.be 2 i)).size ≤ 2 := by rw [lineOf_size, Pk.be_length]; omega
  have z3 : (lineOf (Pk.be 1 l)).size ≤ 1 := by rw [lineOf_size, Pk.be_length]; omega
  have z4 : (lineOf (Pk.be 1 a)).size ≤ 1 := by rw [lineOf_size, Pk.be_length]; omega
  have z5 : (lineOf (Sec.headL i l a p.data.toList)).size ≤ 124 := by rw [lineOf_size, Sec.head_length _ _ _ (by simpa using h5)]; omega
  have z6 : (lineOf (Pk.be 4 (Crc.sum (Sec.headL i l a p.data.toList)))).size ≤ 4 := by rw [lineOf_size, Pk.be_length]; omega
  have z12 : (padB p 120 ++ lineOf (Pk.be 2 i)).size ≤ 122 := by rw [ByteArray.size_append]; omega
  have z13 : (padB p 120 ++ lineOf (Pk.be 2 i) ++ lineOf (Pk.be 1 l)).size ≤ 123 := by rw [ByteArray.size_append]; omega
  have q1' := Lib.hid q1
  have q2' := Lib.hid q2
  clear q1 q2 g1 g2
  generalize padB p 120 = x1 at *
  generalize lineOf (Pk.be 2 i) = x2 at *
  generalize lineOf (Pk.be 1 l) = x3 at *
  generalize lineOf (Pk.be 1 a) = x4 at *
  generalize lineOf (Pk.be 4 (Crc.sum (Sec.headL i l a p.data.toList))) = x6 at *
  generalize Crc.sum (Sec.headL i l a p.data.toList) = cs at *
  generalize lineOf (Sec.headL i l a p.data.toList) = x5 at *
  go_enter Tryz.func88, Tryz.ntmps88
  go_wp2_with (fail)
  refine (hal _ _ (lit_reads w 4 [.bool true, .bool true, .bool true, .bool true, .bool true, .bool true, .bool true])).mono ?_
  rintro e w0 ⟨rfl, rfl⟩
  go_wp2_with (fail)
  refine (hfl _).mono ?_
  rintro e w1 ⟨rfl, b1⟩
  have b1 := below_c' ((Below.refl w.heap.size w).alloc (Nat.le_refl _) _) b1
  go_wp2_with (fail)
  refine (n1 _).mono ?_
  rintro e w2 ⟨rfl, b2⟩
  go_wp2_with (fail)
  refine (n2 _).mono ?_
  rintro e w3 ⟨rfl, b3⟩
  go_wp2_with (fail)
  refine (n3 _).mono ?_
  rintro e w4 ⟨rfl, b4⟩
  go_wp2_with (fail)
  rw [q1'.out]
  refine (hsm _ (by unfold maxLen; omega)).mono ?_
  rintro e w5 ⟨rfl, rfl⟩
  go_wp2_with (fail)
  refine (n4 _).mono ?_
  rintro e w6 ⟨rfl, b6⟩
  go_wp2_with (fail)
  go_ret2
  exact ⟨by rw [q2'.out]; rfl, below_c' (below_c' (below_c' (below_c' b1 b2) b3) b4) b6⟩
theorem seal_any (d slot at_ : Int) (p : ByteArray) (w : World) (hp : p.size ≤ 140737488351232) :
    Calls Tryz.prog 88 #[.int .i64 d, .int .i64 slot, .int .i64 at_, .string p] w (Tells2 w (sealL d slot at_ p) (sealE d slot at_ p)) := by
  by_cases h : sealOk d slot at_ p = true
  · have h' := h
    unfold sealOk at h'
    rw [decide_eq_true_eq] at h'
    obtain ⟨i, rfl⟩ := Int.eq_ofNat_of_zero_le (show 0 ≤ d by omega)
    obtain ⟨l, rfl⟩ := Int.eq_ofNat_of_zero_le (show 0 ≤ slot by omega)
    obtain ⟨a, rfl⟩ := Int.eq_ofNat_of_zero_le (show 0 ≤ at_ by omega)
    obtain ⟨g1, g2⟩ := seal_good (i := i) (l := l) (a := a) (p := p) (by omega) (by omega) (by omega) (by omega) (by omega)
    rw [g1, g2]
    exact seal_right i l a p w (by omega) (by omega) (by omega) (by omega) (by omega)
  · obtain ⟨c1, t1⟩ : ∃ b, decide (1 ≤ d) = b := ⟨_, rfl⟩
    obtain ⟨c2, t2⟩ : ∃ b, decide (d ≤ 65535) = b := ⟨_, rfl⟩
    obtain ⟨c3, t3⟩ : ∃ b, decide (0 ≤ slot) = b := ⟨_, rfl⟩
    obtain ⟨c4, t4⟩ : ∃ b, decide (slot ≤ 6) = b := ⟨_, rfl⟩
    obtain ⟨c5, t5⟩ : ∃ b, decide (0 ≤ at_) = b := ⟨_, rfl⟩
    obtain ⟨c6, t6⟩ : ∃ b, decide (at_ ≤ 255) = b := ⟨_, rfl⟩
    obtain ⟨c7, t7⟩ : ∃ b, decide ((p.size : Int) ≤ 120) = b := ⟨_, rfl⟩
    have hall : [c1, c2, c3, c4, c5, c6, c7].all id = false := by
      have hs : sealOk d slot at_ p = (decide (1 ≤ d) && (decide (d ≤ 65535) && (decide (0 ≤ slot) && (decide (slot ≤ 6) && (decide (0 ≤ at_) && (decide (at_ ≤ 255) && decide ((p.size : Int) ≤ 120))))))) := by
        unfold sealOk; simp only [Bool.decide_and]
      rw [t1, t2, t3, t4, t5, t6, t7] at hs
      rw [hs] at h
      simpa using h
    have hal := fun W v hv => all_any v [c1, c2, c3, c4, c5, c6, c7] W hv (by simp)
    rw [hall] at hal
    have hz : Hid (sealOk d slot at_ p = false) := Lib.hid (by simpa using h)
    clear hall h
    go_enter Tryz.func88, Tryz.ntmps88
    go_wp2_with (fail)
    refine (hal _ _ (lit_reads w 4 [.bool c1, .bool c2, .bool c3, .bool c4, .bool c5, .bool c6, .bool c7])).mono ?_
    rintro e w0 ⟨rfl, rfl⟩
    go_wp2_with (fail)
    go_ret2
    exact seal_bad w d slot at_ p hz _ ((Below.refl w.heap.size w).alloc (Nat.le_refl _) _)
end Go.Proofs.YtfadglcpapiklaaGreatDoor
end
section
namespace Go.Proofs.YtfadglcpapiklaaGreatDoor
open Go.RowKit
set_option linter.unusedVariables false
set_option linter.unusedSimpArgs false

theorem cut_run {P : Program} {T : TypeId} (hT : P.underlying T = some .string) (s : ByteArray) (b : Nat) (h2 : b ≤ s.size) (W : World) :
    (Instr.slice T (.string s) none (some (.int .i64 (b : Int))) none).run P W = .ok (.string (s.extract 0 b)) W := by
  simp [Instr.slice, run_underlying hT, Instr.sliceBounds, Instr.sliceBound, asIntOf, h2]
def eqS (a b : ByteArray) : Bool := a.toList == b.toList
theorem eqS_iff (a b : ByteArray) : eqS a b = true ↔ a = b := by
  unfold eqS
  rw [beq_iff_eq]
  exact ⟨fun h => Go.WideShapes.bytes_inj (by rw [← Lib.toList_data, ← Lib.toList_data, h]), fun h => by rw [h]⟩
def openOk (d slot at_ : Int) (s : ByteArray) : Bool := decide (s.size = 128) && (sealOk d slot at_ (s.extract 0 120) && eqS (sealL d slot at_ (s.extract 0 120)) s)
def openS (d slot at_ : Int) (s : ByteArray) : ByteArray := if openOk d slot at_ s then s.extract 0 120 else ⟨#[]⟩
/-- A text, and whether it is one. -/
def TellsB (w : World) (s : ByteArray) (b : Bool) (e : Ending) (w' : World) : Prop := e = .returned (.tuple #[.string s, .bool b]) ∧ Below w.heap.size w w'
theorem open_bad (w : World) (d slot at_ : Int) (s : ByteArray) (h : Hid (openOk d slot at_ s = false)) (W : World) (hb : Below w.heap.size w W) : TellsB w (openS d slot at_ s) (openOk d slot at_ s) (.returned (.tuple #[.string ⟨#[]⟩, .bool false])) W :=
  ⟨by rw [openS, h.out]; rfl, hb⟩
theorem sealE_ok (d slot at_ : Int) (p : ByteArray) : (sealE d slot at_ p == 0) = sealOk d slot at_ p := by
  rw [sealE]; cases sealOk d slot at_ p <;> rfl
theorem sealL_size (d slot at_ : Int) (p : ByteArray) : (sealL d slot at_ p).size ≤ 128 := by
  rw [sealL]
  cases h : sealOk d slot at_ p with
  | false => rw [if_neg (by decide)]; decide
  | true =>
    unfold sealOk at h; rw [decide_eq_true_eq] at h
    have e : p.data.toList.length = p.size := by simp
    rw [if_pos rfl, secS, lineOf_size, Sec.sec_length _ _ _ (by omega)]; omega
theorem cut120 (s : ByteArray) (h : s.size = 128) : (s.extract 0 120).size = 120 := by simp [ByteArray.size_extract]; omega
set_option maxRecDepth 100000 in
set_option maxHeartbeats 1000000 in
theorem open_any (d slot at_ : Int) (s : ByteArray) (w : World) (hs : s.size ≤ 140737488351232) :
    Calls Tryz.prog 125 #[.int .i64 d, .int .i64 slot, .int .i64 at_, .string s] w (TellsB w (openS d slot at_ s) (openOk d slot at_ s)) := by
  by_cases h : s.size = 128
  · have e0 : (((s.size : Nat) : Int) != 128) = false := by rw [h]; rfl
    have hcut := fun W => cut_run (P := Tryz.prog) (T := 9) Tryz.underlying9 s 120 (by omega) W
    rw [show ((120 : Nat) : Int) = 120 from rfl] at hcut
    have hsl := fun W => seal_any d slot at_ (s.extract 0 120) W (by rw [cut120 s h]; omega)
    have ho : openOk d slot at_ s = (sealOk d slot at_ (s.extract 0 120) && eqS (sealL d slot at_ (s.extract 0 120)) s) := by rw [openOk, decide_eq_true h, Bool.true_and]
    obtain ⟨c1, t1⟩ : ∃ b, (sealE d slot at_ (s.extract 0 120) == 0) = b := ⟨_, rfl⟩
    obtain ⟨c2, t2⟩ : ∃ b, ((sealL d slot at_ (s.extract 0 120)).toList == s.toList) = b := ⟨_, rfl⟩
    rw [← sealE_ok, t1, show eqS (sealL d slot at_ (s.extract 0 120)) s = c2 from t2] at ho
    have hal := fun W v hv => all_any v [c1, c2] W hv (by simp)
    have h120 : 120 ≤ (s.size : Int) := by omega
    have hO : Hid (openS d slot at_ s = if openOk d slot at_ s then s.extract 0 120 else ⟨#[]⟩) := Lib.hid rfl
    generalize openS d slot at_ s = os at *
    generalize sealE d slot at_ (s.extract 0 120) = n at *
    generalize sealL d slot at_ (s.extract 0 120) = x at *
    generalize s.extract 0 120 = p at *
    cases hc : (c1 && c2) with
    | true =>
      rw [hc] at ho
      rw [show [c1, c2].all id = true by simpa using hc] at hal
      have ho' := Lib.hid ho
      clear ho hc h
      go_enter Tryz.func125, Tryz.ntmps125
      go_wp2_with (fail)
      refine (hsl _).mono ?_
      rintro e w1 ⟨rfl, b1⟩
      go_wp2_with (fail)
      refine (hal _ _ (lit_reads w1 4 [.bool c1, .bool c2])).mono ?_
      rintro e w0 ⟨rfl, rfl⟩
      go_wp2_with (fail)
      go_ret2
      exact ⟨by rw [ho'.out, hO.out, ho'.out]; rfl, b1.alloc b1.size _⟩
    | false =>
      rw [hc] at ho
      rw [show [c1, c2].all id = false by simpa using hc] at hal
      have ho' := Lib.hid ho
      clear ho hc h
      go_enter Tryz.func125, Tryz.ntmps125
      go_wp2_with (fail)
      refine (hsl _).mono ?_
      rintro e w1 ⟨rfl, b1⟩
      go_wp2_with (fail)
      refine (hal _ _ (lit_reads w1 4 [.bool c1, .bool c2])).mono ?_
      rintro e w0 ⟨rfl, rfl⟩
      go_wp2_with (fail)
      go_ret2
      exact ⟨by rw [ho'.out, hO.out, ho'.out]; rfl, b1.alloc b1.size _⟩
  · have e0 : (((s.size : Nat) : Int) != 128) = true := by rw [bne_iff_ne]; omega
    have hz : Hid (openOk d slot at_ s = false) := Lib.hid (by rw [openOk, decide_eq_false h, Bool.false_and])
    clear h
    go_enter Tryz.func125, Tryz.ntmps125
    go_wp2_with (fail)
    go_ret2
    exact open_bad w d slot at_ s hz _ (Below.refl _ _)
set_option maxRecDepth 100000 in
set_option maxHeartbeats 2000000 in
theorem rseal_right (i l a : Nat) (p : ByteArray) (w : World) (h1 : 1 ≤ i) (h2 : i ≤ 65535) (h3 : l ≤ 6) (h4 : a ≤ 255) (h5 : p.size ≤ 120) :
    Calls Tryz.prog 27 #[.int .i64 (i : Int), .int .i64 (l : Int), .int .i64 (a : Int), .string p] w (Tells2 w (secS i l a p) 0) := by
  have t1 : decide ((i : Int) < 1) = false := by rw [decide_eq_false_iff_not]; omega
  have t2 : decide (65535 < (i : Int)) = false := by rw [decide_eq_false_iff_not]; omega
  have t3 : decide ((l : Int) < 0) = false := by rw [decide_eq_false_iff_not]; omega
  have t4 : decide (6 < (l : Int)) = false := by rw [decide_eq_false_iff_not]; omega
  have t5 : decide ((a : Int) < 0) = false := by rw [decide_eq_false_iff_not]; omega
  have t6 : decide (255 < (a : Int)) = false := by rw [decide_eq_false_iff_not]; omega
  have t7 : decide (120 < (p.size : Int)) = false := by rw [decide_eq_false_iff_not]; omega
  have hfl := fun W => rfill_any p 120 W (by omega)
  obtain ⟨g1, g2⟩ := fill_good w p 120 (by omega) h5
  rw [show ((120 : Nat) : Int) = 120 from rfl] at g1 g2
  rw [g1, g2] at hfl
  have n1 := fun W => rnum_right i 2 W (by decide) (by decide) (by omega)
  have n2 := fun W => rnum_right l 1 W (by decide) (by decide) (by omega)
  have n3 := fun W => rnum_right a 1 W (by decide) (by decide) (by omega)
  have hcs : Crc.sum (Sec.headL i l a p.data.toList) < 4294967296 := Sec.sum_lt _
  have n4 := fun W => rnum_right (Crc.sum (Sec.headL i l a p.data.toList)) 4 W (by decide) (by decide) hcs
  have hsm := fun W h => rsum_any (lineOf (Sec.headL i l a p.data.toList)) W h
  rw [list_lineOf] at hsm
  obtain ⟨q1, q2⟩ := sec_parts i l a p
  have z1 : (padB p 120).size ≤ 120 := by rw [padB, lineOf_size, Pk.pad_length (by simpa using h5)]; omega
  have z2 : (lineOf (Pk.be 2 i)).size ≤ 2 := by rw [lineOf_size, Pk.be_length]; omega
  have z3 : (lineOf (Pk.be 1 l)).size ≤ 1 := by rw [lineOf_size, Pk.be_length]; omega
  have z4 : (lineOf (Pk.be 1 a)).size ≤ 1 := by rw [lineOf_size, Pk.be_length]; omega
  have z5 : (lineOf (Sec.headL i l a p.data.toList)).size ≤ 124 := by rw [lineOf_size, Sec.head_length _ _ _ (by simpa using h5)]; omega
  have z6 : (lineOf (Pk.be 4 (Crc.sum (Sec.headL i l a p.data.toList)))).size ≤ 4 := by rw [lineOf_size, Pk.be_length]; omega
  have z12 : (padB p 120 ++ lineOf (Pk.be 2 i)).size ≤ 122 := by rw [ByteArray.size_append]; omega
  have z13 : (padB p 120 ++ lineOf (Pk.be 2 i) ++ lineOf (Pk.be 1 l)).size ≤ 123 := by rw [ByteArray.size_append]; omega
  have q1' := Lib.hid q1
  have q2' := Lib.hid q2
  clear q1 q2 g1 g2
  generalize padB p 120 = x1 at *
  generalize lineOf (Pk.be 2 i) = x2 at *
  generalize lineOf (Pk.be 1 l) = x3 at *
  generalize lineOf (Pk.be 1 a) = x4 at *
  generalize lineOf (Pk.be 4 (Crc.sum (Sec.headL i l a p.data.toList))) = x6 at *
  generalize Crc.sum (Sec.headL i l a p.data.toList) = cs at *
  generalize lineOf (Sec.headL i l a p.data.toList) = x5 at *
  go_enter Tryz.func27, Tryz.ntmps27
  go_wp2_with (fail)
  refine (hfl _).mono ?_
  rintro e w1 ⟨rfl, b1⟩
  go_wp2_with (fail)
  refine (n1 _).mono ?_
  rintro e w2 ⟨rfl, b2⟩
  go_wp2_with (fail)
  refine (n2 _).mono ?_
  rintro e w3 ⟨rfl, b3⟩
  go_wp2_with (fail)
  refine (n3 _).mono ?_
  rintro e w4 ⟨rfl, b4⟩
  go_wp2_with (fail)
  rw [q1'.out]
  refine (hsm _ (by omega)).mono ?_
  rintro e w5 ⟨rfl, b5⟩
  go_wp2_with (fail)
  refine (n4 _).mono ?_
  rintro e w6 ⟨rfl, b6⟩
  go_wp2_with (fail)
  go_ret2
  exact ⟨by rw [q2'.out]; rfl, below_c' (below_c' (below_c' (below_c' (below_c' b1 b2) b3) b4) b5) b6⟩
set_option maxRecDepth 100000 in
set_option maxHeartbeats 2000000 in
theorem rseal_any (d slot at_ : Int) (p : ByteArray) (w : World) (hp : p.size ≤ 140737488351232) :
    Calls Tryz.prog 27 #[.int .i64 d, .int .i64 slot, .int .i64 at_, .string p] w (Tells2 w (sealL d slot at_ p) (sealE d slot at_ p)) := by
  by_cases c0 : d < 1
  · have t0 : decide (d < 1) = true := by rw [decide_eq_true_eq]; omega
    have hz : Hid (sealOk d slot at_ p = false) := Lib.hid (by unfold sealOk; rw [decide_eq_false_iff_not]; omega)
    clear c0
    go_enter Tryz.func27, Tryz.ntmps27
    go_wp2_with (fail)
    go_ret2
    exact seal_bad w d slot at_ p hz _ (Below.refl _ _)
  · skip
    by_cases c1 : 65535 < d
    · have t0 : decide (d < 1) = false := by rw [decide_eq_false_iff_not]; omega
      have t1 : decide (65535 < d) = true := by rw [decide_eq_true_eq]; omega
      have hz : Hid (sealOk d slot at_ p = false) := Lib.hid (by unfold sealOk; rw [decide_eq_false_iff_not]; omega)
      clear c0 c1
      go_enter Tryz.func27, Tryz.ntmps27
      go_wp2_with (fail)
      go_ret2
      exact seal_bad w d slot at_ p hz _ (Below.refl _ _)
    · skip
      by_cases c2 : slot < 0
      · have t0 : decide (d < 1) = false := by rw [decide_eq_false_iff_not]; omega
        have t1 : decide (65535 < d) = false := by rw [decide_eq_false_iff_not]; omega
        have t2 : decide (slot < 0) = true := by rw [decide_eq_true_eq]; omega
        have hz : Hid (sealOk d slot at_ p = false) := Lib.hid (by unfold sealOk; rw [decide_eq_false_iff_not]; omega)
        clear c0 c1 c2
        go_enter Tryz.func27, Tryz.ntmps27
        go_wp2_with (fail)
        go_ret2
        exact seal_bad w d slot at_ p hz _ (Below.refl _ _)
      · skip
        by_cases c3 : 6 < slot
        · have t0 : decide (d < 1) = false := by rw [decide_eq_false_iff_not]; omega
          have t1 : decide (65535 < d) = false := by rw [decide_eq_false_iff_not]; omega
          have t2 : decide (slot < 0) = false := by rw [decide_eq_false_iff_not]; omega
          have t3 : decide (6 < slot) = true := by rw [decide_eq_true_eq]; omega
          have hz : Hid (sealOk d slot at_ p = false) := Lib.hid (by unfold sealOk; rw [decide_eq_false_iff_not]; omega)
          clear c0 c1 c2 c3
          go_enter Tryz.func27, Tryz.ntmps27
          go_wp2_with (fail)
          go_ret2
          exact seal_bad w d slot at_ p hz _ (Below.refl _ _)
        · skip
          by_cases c4 : at_ < 0
          · have t0 : decide (d < 1) = false := by rw [decide_eq_false_iff_not]; omega
            have t1 : decide (65535 < d) = false := by rw [decide_eq_false_iff_not]; omega
            have t2 : decide (slot < 0) = false := by rw [decide_eq_false_iff_not]; omega
            have t3 : decide (6 < slot) = false := by rw [decide_eq_false_iff_not]; omega
            have t4 : decide (at_ < 0) = true := by rw [decide_eq_true_eq]; omega
            have hz : Hid (sealOk d slot at_ p = false) := Lib.hid (by unfold sealOk; rw [decide_eq_false_iff_not]; omega)
            clear c0 c1 c2 c3 c4
            go_enter Tryz.func27, Tryz.ntmps27
            go_wp2_with (fail)
            go_ret2
            exact seal_bad w d slot at_ p hz _ (Below.refl _ _)
          · skip
            by_cases c5 : 255 < at_
            · have t0 : decide (d < 1) = false := by rw [decide_eq_false_iff_not]; omega
              have t1 : decide (65535 < d) = false := by rw [decide_eq_false_iff_not]; omega
              have t2 : decide (slot < 0) = false := by rw [decide_eq_false_iff_not]; omega
              have t3 : decide (6 < slot) = false := by rw [decide_eq_false_iff_not]; omega
              have t4 : decide (at_ < 0) = false := by rw [decide_eq_false_iff_not]; omega
              have t5 : decide (255 < at_) = true := by rw [decide_eq_true_eq]; omega
              have hz : Hid (sealOk d slot at_ p = false) := Lib.hid (by unfold sealOk; rw [decide_eq_false_iff_not]; omega)
              clear c0 c1 c2 c3 c4 c5
              go_enter Tryz.func27, Tryz.ntmps27
              go_wp2_with (fail)
              go_ret2
              exact seal_bad w d slot at_ p hz _ (Below.refl _ _)
            · skip
              by_cases c6 : 120 < (p.size : Int)
              · have t0 : decide (d < 1) = false := by rw [decide_eq_false_iff_not]; omega
                have t1 : decide (65535 < d) = false := by rw [decide_eq_false_iff_not]; omega
                have t2 : decide (slot < 0) = false := by rw [decide_eq_false_iff_not]; omega
                have t3 : decide (6 < slot) = false := by rw [decide_eq_false_iff_not]; omega
                have t4 : decide (at_ < 0) = false := by rw [decide_eq_false_iff_not]; omega
                have t5 : decide (255 < at_) = false := by rw [decide_eq_false_iff_not]; omega
                have t6 : decide (120 < (p.size : Int)) = true := by rw [decide_eq_true_eq]; omega
                have hz : Hid (sealOk d slot at_ p = false) := Lib.hid (by unfold sealOk; rw [decide_eq_false_iff_not]; omega)
                clear c0 c1 c2 c3 c4 c5 c6
                go_enter Tryz.func27, Tryz.ntmps27
                go_wp2_with (fail)
                go_ret2
                exact seal_bad w d slot at_ p hz _ (Below.refl _ _)
              · skip
                obtain ⟨i, rfl⟩ := Int.eq_ofNat_of_zero_le (show 0 ≤ d by omega)
                obtain ⟨l, rfl⟩ := Int.eq_ofNat_of_zero_le (show 0 ≤ slot by omega)
                obtain ⟨a, rfl⟩ := Int.eq_ofNat_of_zero_le (show 0 ≤ at_ by omega)
                obtain ⟨g1, g2⟩ := seal_good (i := i) (l := l) (a := a) (p := p) (by omega) (by omega) (by omega) (by omega) (by omega)
                rw [g1, g2]
                exact rseal_right i l a p w (by omega) (by omega) (by omega) (by omega) (by omega)
end Go.Proofs.YtfadglcpapiklaaGreatDoor
end
section
namespace Go.Proofs.YtfadglcpapiklaaGreatDoor
open Go.RowKit
set_option linter.unusedVariables false
set_option linter.unusedSimpArgs false


/-- What opens a sealed sector. -/
theorem open_sealed {i l a : Nat} {q : ByteArray} (h1 : 1 ≤ i) (h2 : i ≤ 65535) (h3 : l ≤ 6) (h4 : a ≤ 255) (h5 : q.size ≤ 120) (d m t : Int) :
    openOk d m t (secS i l a q) = decide (d = (i : Int) ∧ m = (l : Int) ∧ t = (a : Int)) ∧ (secS i l a q).extract 0 120 = padB q 120 ∧ (secS i l a q).size = 128 := by
  have hq : q.data.toList.length ≤ 120 := by simpa using h5
  have hsz : (secS i l a q).size = 128 := by rw [secS, lineOf_size, Sec.sec_length _ _ _ hq]
  have hcut : (secS i l a q).extract 0 120 = padB q 120 := by
    apply Go.WideShapes.bytes_inj
    rw [padB, list_lineOf, ← Sec.sec_take i l a hq, secS]
    simp [lineOf, ByteArray.data_extract]
  refine ⟨?_, hcut, hsz⟩
  rw [openOk, decide_eq_true hsz, Bool.true_and, hcut]
  have hp : (padB q 120).size = 120 := by rw [padB, lineOf_size, Pk.pad_length hq]
  rw [Bool.eq_iff_iff, Bool.and_eq_true, eqS_iff, decide_eq_true_eq]
  constructor
  · rintro ⟨h, he⟩
    have h' := h
    unfold sealOk at h'; rw [decide_eq_true_eq] at h'
    rw [sealL, if_pos h, secS, secS] at he
    have he2 := congrArg (fun b => b.data.toList) he
    simp only [list_lineOf] at he2
    rw [show (padB q 120).data.toList = Pk.padL q.data.toList 120 by rw [padB, list_lineOf], Sec.sec_pad _ _ _ hq, Sec.sec_inj hq hq (by omega) (by omega) (by omega) (by omega) (by omega) (by omega)] at he2
    omega
  · rintro ⟨rfl, rfl, rfl⟩
    have hb : sealOk (i : Int) (l : Int) (a : Int) (padB q 120) = true := by unfold sealOk; rw [decide_eq_true_eq]; omega
    refine ⟨hb, ?_⟩
    rw [sealL, if_pos hb, secS, secS]
    rw [show (padB q 120).data.toList = Pk.padL q.data.toList 120 by rw [padB, list_lineOf], show ((i : Int)).toNat = i by omega, show ((l : Int)).toNat = l by omega, show ((a : Int)).toNat = a by omega, Sec.sec_pad _ _ _ hq]
end Go.Proofs.YtfadglcpapiklaaGreatDoor
end
section
namespace Go.Proofs.YtfadglcpapiklaaGreatDoor
open Go.RowKit
set_option linter.unusedVariables false
set_option linter.unusedSimpArgs false

/-- What was made: of which numbers, of which text. -/
structure Made (i l a : Nat) (q : ByteArray) : Prop where
  i1 : 1 ≤ i
  i2 : i ≤ 65535
  l : l ≤ 6
  a : a ≤ 255
  q : q.size ≤ 120
theorem Made.sz {i l a : Nat} {q : ByteArray} (h : Made i l a q) : (secS i l a q).size = 128 := (open_sealed h.i1 h.i2 h.l h.a h.q 0 0 0).2.2
end Go.Proofs.YtfadglcpapiklaaGreatDoor
end
section
namespace Go.Proofs.YtfadglcpapiklaaGreatDoor
open Go.RowKit
set_option linter.unusedVariables false
set_option linter.unusedSimpArgs false

theorem zero_shut (d slot at_ : Int) (n : Nat) : openOk d slot at_ (lineOf (List.replicate n 0)) = false := by
  cases e : openOk d slot at_ (lineOf (List.replicate n 0)) with
  | false => rfl
  | true =>
    rw [openOk, Bool.and_eq_true, Bool.and_eq_true, eqS_iff, decide_eq_true_eq, lineOf_size, List.length_replicate] at e
    obtain ⟨rfl, h, he⟩ := e
    rw [sealL, if_pos h] at he
    unfold sealOk at h; rw [decide_eq_true_eq] at h
    have hx : ((lineOf (List.replicate 128 0)).extract 0 120).data.toList = List.replicate 120 0 := by
      simp [lineOf, ByteArray.data_extract]
    have he2 := congrArg (fun b => b.data.toList) he
    simp only [secS, list_lineOf, hx] at he2
    have hl : (List.replicate 120 (0 : UInt8)).length ≤ 120 := by simp
    have h3 := congrArg (List.take 124) he2
    rw [Sec.sec_head _ _ _ hl, show List.take 124 (List.replicate 128 (0 : UInt8)) = List.replicate 124 0 from rfl] at h3
    unfold Sec.headL at h3
    rw [show List.replicate 124 (0 : UInt8) = List.replicate 120 0 ++ Pk.be 2 0 ++ Pk.be 1 0 ++ Pk.be 1 0 from rfl] at h3
    obtain ⟨h3, _⟩ := List.append_inj h3 (by simp [Pk.be_length, Pk.padL])
    obtain ⟨h3, _⟩ := List.append_inj h3 (by simp [Pk.be_length, Pk.padL])
    obtain ⟨_, h4⟩ := List.append_inj h3 (by simp [Pk.padL])
    have := Pk.be_inj (w := 2) (by omega) (by decide) h4
    exfalso; omega
theorem xor_byte (a : UInt8) (b : Nat) (hb : b < 256) : (UInt8.ofNat (a.toNat ^^^ b)).toNat = a.toNat ^^^ b := by
  have h : a.toNat ^^^ b < 2 ^ 8 := Nat.xor_lt_two_pow (n := 8) a.toNat_lt hb
  exact UInt8.toNat_ofNat_of_lt' h
theorem xor_ne (a : UInt8) (b : Nat) (hb : b < 256) (h : b ≠ 0) : UInt8.ofNat (a.toNat ^^^ b) ≠ a := by
  intro e
  have := xor_byte a b hb
  rw [e] at this
  apply h
  have h2 : a.toNat ^^^ (a.toNat ^^^ b) = a.toNat ^^^ a.toNat := by rw [← this]
  rw [← Nat.xor_assoc, Nat.xor_self, Nat.zero_xor] at h2
  exact h2
/-- What was turned in a sector does not open. -/
theorem turn_shut {i l a f : Nat} {q : ByteArray} (hm : Made i l a q) (T : List UInt8) (hT : T.length = 128) (hf : f ≤ 120 ∨ f = 124) (hw : ∀ j, j < f ∨ f + 4 ≤ j → T.getD j 0 = (Sec.secL i l a q.data.toList).getD j 0) (hne : T ≠ Sec.secL i l a q.data.toList) :
    openOk (i : Int) (l : Int) (a : Int) (lineOf T) = false := by
  have hq : q.data.toList.length ≤ 120 := by have := hm.q; simpa using this
  have hz : (lineOf T).size = 128 := by rw [lineOf_size, hT]
  cases e : openOk (i : Int) (l : Int) (a : Int) (lineOf T) with
  | false => rfl
  | true =>
    rw [openOk, Bool.and_eq_true, Bool.and_eq_true, eqS_iff, decide_eq_true_eq] at e
    obtain ⟨_, h, he⟩ := e
    rw [sealL, if_pos h, secS] at he
    have he2 := congrArg (fun b => b.data.toList) he
    have hx : ((lineOf T).extract 0 120).data.toList = T.take 120 := by simp [lineOf, ByteArray.data_extract]
    simp only [list_lineOf, hx, Int.toNat_natCast] at he2
    exact absurd he2 (Sec.sec_turned hq hT hf hw hne)
end Go.Proofs.YtfadglcpapiklaaGreatDoor
end
