/- The document's division, walked. -/
import Derived.Test.YtdbjfofnkijmoaaDoorCrcWalk
namespace Go.Proofs.YtdbjfofnkijmoaaDoor
open Go.RowKit
set_option linter.unusedVariables false
set_option linter.unusedSimpArgs false

set_option maxRecDepth 100000 in
theorem turned_nat (n : Nat) (w : World) (h : n < 4294967296) :
    Calls Tryd.prog 64 #[.int .i64 (n : Int)] w fun e w' => e = .returned (.int .i64 ((Crc.rv 32 n : Nat) : Int)) ∧ w = w' := by
  go_enter Tryd.func64, Tryd.ntmps64
  go_wp2
  go_loop [0, 3, 4] (fun x o i => ∃ k X O : Nat, k ≤ 32 ∧ i = .int .i64 (k : Int) ∧ X < 4294967296 ∧ O < 4294967296 ∧ X = n / 2 ^ k ∧ O = Crc.rv k n ∧ x = .int .i64 (X : Int) ∧ o = .int .i64 (O : Int)) (fun _ _ i => (32 - intOf i).toNat)
  case atStart => exact ⟨0, n, 0, by omega, rfl, h, by omega, by simp, rfl, rfl, rfl⟩
  case round =>
    obtain ⟨k, X, O, hk, rfl, hX, hO, eX, eO, rfl, rfl⟩ := hrel
    by_cases hlt : k < 32
    · have hl := Crc.rv_lt n (k + 1)
      have hle : 2 ^ (k + 1) ≤ 2 ^ 32 := Nat.pow_le_pow_right (by decide) (by omega)
      have e1 : X / 2 = n / 2 ^ (k + 1) := by rw [eX, Nat.div_div_eq_div_mul, Nat.pow_succ]
      have e2 : 2 * O + X % 2 = Crc.rv (k + 1) n := by rw [eX, eO]; rfl
      have e3 : 2 * O + X % 2 < 4294967296 := by omega
      have E := Lib.hid (show _ ∧ _ from ⟨e1, e2⟩)
      clear e1 e2 eX eO hl hle
      go_wp2
      go_round
      case rel => exact ⟨k + 1, X / 2, 2 * O + X % 2, by omega, by go_num, by omega, e3, E.out.1, E.out.2, by go_num, by go_num⟩
      case measure => simp [intOf]; omega
    · obtain rfl : k = 32 := by omega
      have E := Lib.hid eO
      clear eX eO
      go_wp2
      go_ret
      exact ⟨by rw [← E.out]; rfl, rfl⟩
theorem turned_any (n : Int) (w : World) (h0 : 0 ≤ n) (h : n < 4294967296) :
    Calls Tryd.prog 64 #[.int .i64 n] w fun e w' => e = .returned (.int .i64 ((Crc.rv 32 n.toNat : Nat) : Int)) ∧ w = w' := by
  obtain ⟨n, rfl⟩ := Int.eq_ofNat_of_zero_le h0
  exact turned_nat n w (by omega)

theorem Tryd.infoI : (Tryd.prog.info? 3).map (fun i => (i.zero, i.size, i.bytes)) = some (some (.int .i64 0), 1, 8) := by kernel_rfl
def bitsTo (l : List UInt8) (n : Nat) : List Value := (List.range n).map fun i => .int .i64 ((Crc.bitAt l i : Nat) : Int)
theorem bitsTo_succ (l : List UInt8) (n : Nat) : bitsTo l (n + 1) = bitsTo l n ++ [.int .i64 ((Crc.bitAt l n : Nat) : Int)] := by simp [bitsTo, List.range_succ]
set_option maxRecDepth 100000 in
set_option maxHeartbeats 1000000 in
theorem bits_any (s : ByteArray) (w : World) (hs : s.size ≤ 3000) :
    Calls Tryd.prog 65 #[.string s] w fun e w' => ∃ v, e = .returned v ∧ w'.ownsRow w.heap.size 3 1 v (8 * s.size) (bitsTo s.data.toList (8 * s.size)) ∧ Below w.heap.size w w' := by
  obtain ⟨i0, hi, hz0, hz1, hz2⟩ := info_parts Tryd.infoI
  go_enter Tryd.func65, Tryd.ntmps65
  go_wp2
  go_loopw [3, 4] (fun v i wr => ∃ k : Nat, k ≤ s.size ∧ i = .int .i64 (k : Int) ∧ wr.ownsRow w.heap.size 3 1 v (8 * k) (bitsTo s.data.toList (8 * k)) ∧ Below w.heap.size w wr) (fun _ i _ => s.size - (intOf i).toNat)
  case atStart => exact ⟨0, by omega, rfl, World.ownsRow_nil _ _ _ _, Below.refl _ _⟩
  case round =>
    obtain ⟨k, hk, rfl, hown, hbel⟩ := hrel
    by_cases hlt : k < s.size
    · have b1 : (0 : Int) ≤ (k : Int) := by omega
      have b2 : (k : Int) < (s.size : Int) := by omega
      have c1 := UInt8.toNat_lt s[k]
      have hbit : ∀ m, m < 8 → (s[k]).toNat / 2 ^ m % 2 = Crc.bitAt s.data.toList (8 * k + m) := fun m hm => by
        unfold Crc.bitAt
        rw [byte_get s k hlt, show (8 * k + m) / 8 = k by omega, show (8 * k + m) % 8 = m by omega]
      have HB := Lib.hid hbit
      clear hbit
      obtain ⟨wo, rfl⟩ : ∃ wo : World, wo = wr := ⟨_, rfl⟩
      go_wp2
      go_loopw [3, 5, 6] (fun v n j wr => ∃ m X : Nat, m ≤ 8 ∧ X < 256 ∧ j = .int .i64 (m : Int) ∧ n = .int .i64 (X : Int) ∧ X = (s[k]).toNat / 2 ^ m ∧ wr.ownsRow w.heap.size 3 1 v (8 * k + m) (bitsTo s.data.toList (8 * k + m)) ∧ Below w.heap.size w wr) (fun _ _ j _ => 8 - (intOf j).toNat)
      case atStart => exact ⟨0, (s[k]).toNat, by omega, by omega, rfl, rfl, by simp, hown, hbel⟩
      case round =>
        obtain ⟨m, X, hm, hX, rfl, rfl, eX, hown1, hbel1⟩ := hrel
        have hsz := hbel1.size
        by_cases hm8 : m < 8
        · have e1 : Hid (X / 2 = (s[k]).toNat / 2 ^ (m + 1)) := Lib.hid (by rw [eX, Nat.div_div_eq_div_mul, Nat.pow_succ])
          have e2 : Hid (((X : Int) % 2) = ((Crc.bitAt s.data.toList (8 * k + m) : Nat) : Int)) := Lib.hid (by rw [← HB.out m hm8, ← eX]; omega)
          clear eX
          go_wp2_with (at_builtin; refine wpList_append_own _ rfl _ _ 40 rfl w.heap.size 3 i0 (.int .i64 0) 1 8 Tryd.underlying40 hi hz0 hz1 hz2 rfl (by decide) _ _ _ rfl (hown1.alloc _) ⟨wr.heap.size, 0, none⟩ 1 1 [.int .i64 ((X : Int) % 2)] rfl rfl ?c1 ?c2 ?c3 ?c4 ?c5 ?_)
          case c1 =>
            intro j u hj
            match j, hj with
            | 0, hj => simp at hj; subst hj; simp [Addr.add]
          case c2 => intro u hu; simp at hu; subst hu; rfl
          case c3 => unfold maxLen; omega
          case c4 => omega
          case c5 => simp; omega
          · intro v' w1 hown' hgrow _
            rw [e2.out] at hown'
            have hown2 : w1.ownsRow w.heap.size 3 1 v' (8 * k + (m + 1)) (bitsTo s.data.toList (8 * k + (m + 1))) := by
              rw [← Nat.add_assoc, bitsTo_succ]; exact hown'
            have hb2 : Below w.heap.size w w1 := ((hbel1.alloc (by omega) _)).grown hgrow (by simp; omega) (fun q hq => (hown1.lt q hq).1)
            clear hown' hgrow
            go_wp2
            go_roundw
            case rel => exact ⟨m + 1, X / 2, by omega, by omega, by go_num, by go_num, e1.out, hown2, hb2⟩
            case measure => simp [intOf]; omega
        · obtain rfl : m = 8 := by omega
          go_wp2
          go_roundw
          case rel => exact ⟨k + 1, by omega, by go_num, by rw [show 8 * (k + 1) = 8 * k + 8 by omega]; exact hown1, hbel1⟩
          case measure => simp [intOf]; omega
    · obtain rfl : k = s.size := by omega
      go_wp2
      go_ret
      exact ⟨_, rfl, hown, hbel⟩

theorem own_cell {w : World} {B n : Nat} {g cap : Nat} {E : TypeId} {xs : List Value} (h : w.ownsRow B E 1 (.slice (some ⟨g, 0, none⟩) n cap) n xs) (i : Nat) (hi : i < xs.length) : w.cell? ⟨g, i, none⟩ = some (xs.getD i undef) := by
  obtain ⟨hl, hv⟩ := h
  rcases hv with ⟨hx, _⟩ | ⟨g', cap', cur, hx, hb, hg, hn, hm, hs, ht⟩
  · cases hx
  · cases hx
    have e := congrArg (·[i]?) ht
    simp only [List.getElem?_take, Nat.mul_one] at e
    rw [if_pos (by omega), List.getElem?_eq_getElem hi] at e
    simp only [World.cell?, hg]
    rw [List.getD_eq_getElem?_getD, List.getElem?_eq_getElem hi]
    simpa using e
theorem bitsTo_getD (l : List UInt8) (n i : Nat) (h : i < n) : (bitsTo l n).getD i undef = .int .i64 ((Crc.bitAt l i : Nat) : Int) := by
  simp [bitsTo, List.getD_eq_getElem?_getD, h]
theorem bitsTo_length (l : List UInt8) (n : Nat) : (bitsTo l n).length = n := by simp [bitsTo]
theorem xor64d (a : Nat) (h1 : a < 4294967296) : bits .xor .i64 (a : Int) 517762881 = ((a ^^^ 517762881 : Nat) : Int) := by
  have hl := Crc.xor_lt h1 (show 517762881 < 4294967296 by decide)
  have e : (BitVec.ofNat 64 a ^^^ BitVec.ofNat 64 517762881).toNat = a ^^^ 517762881 := by
    rw [BitVec.toNat_xor, BitVec.toNat_ofNat, BitVec.toNat_ofNat, Nat.mod_eq_of_lt (by omega : a < 2 ^ 64), Nat.mod_eq_of_lt (by decide)]
  have e2 : bits .xor .i64 (a : Int) 517762881 = IntKind.i64.wrap (((BitVec.ofNat 64 a ^^^ BitVec.ofNat 64 517762881).toNat : Nat) : Int) := by
    have ea : BitVec.ofInt 64 (a : Int) = BitVec.ofNat 64 a := BitVec.ofInt_natCast 64 a
    rw [← ea]; rfl
  rw [e2, e]
  exact IntWalk.i64_in _ ⟨by omega, by omega⟩
theorem dstep_lt {r l : Nat} (h : r < 4294967296) : Crc.dstep r l < 4294967296 := by
  unfold Crc.dstep
  split
  · omega
  · exact Crc.xor_lt (by omega) (by decide)
theorem dgo_lt {r : Nat} {f : Nat → Nat} (h : r < 4294967296) : ∀ n, Crc.dgo r f n < 4294967296
  | 0 => h
  | n + 1 => dstep_lt (dgo_lt h n)
theorem rv_lt32 (n : Nat) : Crc.rv 32 n < 4294967296 := Crc.rv_lt n 32

set_option maxRecDepth 100000 in
set_option maxHeartbeats 2000000 in
theorem rgo_nat (n : Nat) (s : ByteArray) (w : World) (h : n < 4294967296) (hs : s.size ≤ 3000) :
    Calls Tryd.prog 49 #[.int .u32 (n : Int), .string s] w fun e w' => e = .returned (.int .u32 ((Crc.go n s.data.toList : Nat) : Int)) ∧ Below w.heap.size w w' := by
  have hr := rv_lt32 n
  have hfin := Lib.hid (Crc.dgo_go h s.data.toList)
  go_enter Tryd.func49, Tryd.ntmps49
  go_wp2_with (go_at_call 64; refine (turned_any _ _ (by omega) (by omega)).mono ?_; rintro e w' ⟨rfl, rfl⟩)
  refine (bits_any s _ hs).mono ?_
  rintro e w1 ⟨v, rfl, hown, hbel⟩
  have hown' := hown
  obtain ⟨hl, hv⟩ := hown
  rcases hv with ⟨rfl, h0⟩ | ⟨g, cap, cur, rfl, hb, hg, hn, hm, hs', ht⟩
  · have hs0 : s.size = 0 := by omega
    have hnil : Hid (s.data.toList = []) := Lib.hid (List.eq_nil_of_length_eq_zero (by simpa using hs0))
    clear hl hown'
    go_wp2
    go_loop [5, 7] (fun r i => i = .int .i64 0 ∧ r = .int .i64 ((Crc.rv 32 n : Nat) : Int)) (fun _ _ => 0)
    case atStart => exact ⟨rfl, rfl⟩
    case round =>
      obtain ⟨rfl, rfl⟩ := hrel
      have hz : Hid (Crc.rv 32 (Crc.rv 32 n) = Crc.go n s.data.toList) := Lib.hid (by rw [hnil.out, Crc.rv_rv h]; rfl)
      have hrr := rv_lt32 (Crc.rv 32 n)
      go_wp2_with (go_at_call 64; refine (turned_any _ _ (by omega) (by omega)).mono ?_; rintro e w' ⟨rfl, rfl⟩)
      go_ret
      exact ⟨by rw [← hz.out]; rfl, hbel⟩
  · clear hl hb hg hn hm hs' ht
    have HO := Lib.hid hown'
    clear hown'
    go_wp2
    go_loop [5, 7] (fun r i => ∃ k R : Nat, k ≤ 8 * s.size ∧ i = .int .i64 (k : Int) ∧ R < 4294967296 ∧ R = Crc.dgo (Crc.rv 32 n) (Crc.bitAt s.data.toList) k ∧ r = .int .i64 (R : Int)) (fun _ i => 8 * s.size - (intOf i).toNat)
    case atStart => exact ⟨0, _, by omega, rfl, hr, rfl, rfl⟩
    case round =>
      obtain ⟨k, R, hk, rfl, hR, eR, rfl⟩ := hrel
      by_cases hlt : k < 8 * s.size
      · have hc := own_cell HO.out k (by rw [bitsTo_length]; exact hlt)
        rw [bitsTo_getD _ _ _ hlt] at hc
        have hbl := Crc.bitAt_lt s.data.toList k
        have hnx : Crc.dstep R (Crc.bitAt s.data.toList k) = Crc.dgo (Crc.rv 32 n) (Crc.bitAt s.data.toList) (k + 1) := by rw [Crc.dgo, ← eR]
        have hdl := dstep_lt (l := Crc.bitAt s.data.toList k) hR
        have hx := xor64d (2 * (R % 2147483648)) (by omega)
        rw [show ((2 * (R % 2147483648) : Nat) : Int) = 2 * ((R : Int) % 2147483648) by omega] at hx
        generalize Crc.bitAt s.data.toList k = l at hc hbl hnx hdl
        have b1 : (0 : Int) ≤ (k : Int) := by omega
        have b2 : (k : Int) < ((8 * s.size : Nat) : Int) := by omega
        by_cases he : R / 2147483648 = l
        · have t1 : ((R : Int) / 2147483648 != (l : Int)) = false := by rw [bne_eq_false_iff_eq]; omega
          have hd : Crc.dstep R l = 2 * (R % 2147483648) := by unfold Crc.dstep; rw [if_pos he]
          have E := Lib.hid (show _ ∧ _ from ⟨hnx, hd⟩)
          have HD := Lib.hid hdl
          clear hnx hd hdl he eR hx
          go_wp2
          go_round
          case rel => exact ⟨k + 1, _, by omega, by go_num, HD.out, E.out.1, by rw [E.out.2]; go_num⟩
          case measure => simp [intOf]; omega
        · have t1 : ((R : Int) / 2147483648 != (l : Int)) = true := by rw [bne_iff_ne]; omega
          have hd : Crc.dstep R l = 2 * (R % 2147483648) ^^^ 517762881 := by unfold Crc.dstep; rw [if_neg he]
          have E := Lib.hid (show _ ∧ _ from ⟨hnx, hd⟩)
          have HD := Lib.hid hdl
          clear hnx hd hdl he eR
          go_wp2
          go_round
          case rel => exact ⟨k + 1, _, by omega, by go_num, HD.out, E.out.1, by rw [E.out.2]⟩
          case measure => simp [intOf]; omega
      · obtain rfl : k = 8 * s.size := by omega
        have hz : Hid (Crc.rv 32 R = Crc.go n s.data.toList) := Lib.hid (by rw [← hfin.out, eR]; simp)
        have hrr := rv_lt32 R
        clear eR
        go_wp2_with (go_at_call 64; refine (turned_any _ _ (by omega) (by omega)).mono ?_; rintro e w' ⟨rfl, rfl⟩)
        go_ret
        exact ⟨by rw [← hz.out]; rfl, hbel⟩
theorem rgo_any (n : Int) (s : ByteArray) (w : World) (h0 : 0 ≤ n) (h : n < 4294967296) (hs : s.size ≤ 3000) :
    Calls Tryd.prog 49 #[.int .u32 n, .string s] w fun e w' => e = .returned (.int .u32 ((Crc.go n.toNat s.data.toList : Nat) : Int)) ∧ Below w.heap.size w w' := by
  obtain ⟨n, rfl⟩ := Int.eq_ofNat_of_zero_le h0
  exact rgo_nat n s w (by omega) hs
theorem rbegin_any (w : World) : Calls Tryd.prog 48 #[] w fun e w' => e = .returned (.int .u32 4294967295) ∧ w = w' := by
  go_enter Tryd.func48, Tryd.ntmps48
  go_wp2
  go_ret
  exact ⟨rfl, rfl⟩
theorem fin_sub (n : Nat) (h : n < 4294967296) : Crc.fin n = 4294967295 - n := by
  unfold Crc.fin
  have e : (BitVec.ofNat 32 n ^^^ BitVec.allOnes 32).toNat = n ^^^ 4294967295 := by
    rw [BitVec.toNat_xor, BitVec.toNat_ofNat, Nat.mod_eq_of_lt (by omega)]; rfl
  rw [← e, BitVec.xor_allOnes, BitVec.toNat_not, BitVec.toNat_ofNat, Nat.mod_eq_of_lt (by omega)]
theorem rend_nat (n : Nat) (w : World) (h : n < 4294967296) :
    Calls Tryd.prog 50 #[.int .u32 (n : Int)] w fun e w' => e = .returned (.int .u32 ((Crc.fin n : Nat) : Int)) ∧ w = w' := by
  have hf := Lib.hid (fin_sub n h)
  go_enter Tryd.func50, Tryd.ntmps50
  go_wp2
  go_ret
  exact ⟨by rw [show ((Crc.fin n : Nat) : Int) = 4294967295 - (n : Int) by have := hf.out; omega]; rfl, rfl⟩
theorem rend_any (n : Int) (w : World) (h0 : 0 ≤ n) (h : n < 4294967296) :
    Calls Tryd.prog 50 #[.int .u32 n] w fun e w' => e = .returned (.int .u32 ((Crc.fin n.toNat : Nat) : Int)) ∧ w = w' := by
  obtain ⟨n, rfl⟩ := Int.eq_ofNat_of_zero_le h0
  exact rend_nat n w (by omega)
end Go.Proofs.YtdbjfofnkijmoaaDoor
