/- The laws of crc that fill rows of bytes. -/
import Derived.Test.YtbjdpepldialeaaCrcLaw1
import Derived.Test.YtbjdpepldialeaaBytes
import Derived.Deep.RegionHeld3
import Derived.BigQuiet
import Derived.Deep.QuietTactic
import Derived.Deep.DrawnRows
namespace Go.Proofs.Ytbjdpepldialeaa
open Go.RowKit
set_option linter.unusedVariables false
set_option linter.unusedSimpArgs false

namespace Crc
theorem sum_lt (l : List UInt8) : sum l < 4294967296 := fin_lt (go_lt (by decide) l)
/-- The second text, brought to the first one's length. -/
def fit (n : Nat) (s : List UInt8) : List UInt8 := s.take n ++ (List.replicate n 0).drop s.length
theorem fit_length (n : Nat) (s : List UInt8) : (fit n s).length = n := by simp [fit]; omega
theorem sum_append_inj {a y m : List UInt8} : sum (a ++ m) = sum (y ++ m) ↔ sum a = sum y := by
  unfold sum
  rw [go_append, go_append]
  constructor
  · intro h; rw [go_inj (go_lt (by decide) a) (go_lt (by decide) y) m (fin_inj h)]
  · intro h; rw [fin_inj h]
end Crc

theorem beq_beq {p q r s : Nat} (h : r = s ↔ p = q) : (((p : Int) == (q : Int)) == ((r : Int) == (s : Int))) = true := by
  by_cases e : p = q
  · rw [h.2 e, e]; simp
  · have e1 : ((p : Int) == (q : Int)) = false := by rw [beq_eq_false_iff_ne]; omega
    have e2 : ((r : Int) == (s : Int)) = false := by rw [beq_eq_false_iff_ne]; intro h'; exact e (h.1 (by omega))
    rw [e1, e2]; rfl
set_option maxRecDepth 100000 in
theorem tail_walk (a b m : ByteArray) (w : World) (ha : a.size ≤ 140737488351232) (hb : b.size ≤ 140737488351232) (hm : m.size ≤ 140737488351232) :
    Calls Try.prog 8 #[.string a, .string b, .string m] w fun e w' => e = .returned (.bool true) ∧ Below w.heap.size w w' := by
  obtain ⟨w1, hmk, hrow, hbel, hsz⟩ := BRow.make_run w a.size (by omega)
  have hlen : (List.replicate a.size (0 : UInt8)).length = a.size := List.length_replicate
  obtain ⟨w2, hcp, hrow2, hbel2, hoth⟩ := hrow.copy_run b 3 a.size
  rw [hlen] at hcp hrow2
  have hbl : Below w.heap.size w w2 := hbel.trans (hbel2 _ (Nat.le_refl _))
  have hfit : b.data.toList.take a.size ++ (List.replicate a.size (0 : UInt8)).drop b.size = Crc.fit a.size b.data.toList := rfl
  rw [hfit] at hrow2
  have hcv := hrow2.str a.size a.size (Crc.fit_length _ _).symm
  have hys : (lineOf (Crc.fit a.size b.data.toList)).size = a.size := by rw [lineOf_size, Crc.fit_length]
  generalize hy : lineOf (Crc.fit a.size b.data.toList) = y at hcv hys
  clear hy hfit hlen hrow2 hrow hbel hbel2 hoth
  go_enter Try.func8, Try.ntmps8
  go_wp2_with (first
    | (go_at_call 9; refine (awake_any _).mono ?_; rintro e w' ⟨rfl, rfl⟩)
    | (go_at_call 10; refine (sum_any _ _ (by unfold maxLen; simp; omega)).mono ?_; rintro e w' ⟨rfl, rfl⟩))
  go_ret
  refine ⟨?_, hbl⟩
  show Ending.returned (.bool (_ == _)) = _
  rw [beq_beq Crc.sum_append_inj]

namespace Crc
/-- The sum of three lines, as far as it has come. -/
def three (a x y : List UInt8) (n k : Nat) : List UInt8 := (List.range n).map fun j => if j < k then UInt8.ofNat ((a.getD j 0).toNat ^^^ (x.getD j 0).toNat ^^^ (y.getD j 0).toNat) else 0
theorem three_length (a x y : List UInt8) (n k : Nat) : (three a x y n k).length = n := by simp [three]
theorem three_zero (a x y : List UInt8) (n : Nat) : three a x y n 0 = List.replicate n 0 := by
  apply List.ext_getElem
  · simp [three]
  · intro i h1 h2; simp [three]
theorem three_succ (a x y : List UInt8) (n k : Nat) (h : k < n) : (three a x y n k).set k (UInt8.ofNat ((a.getD k 0).toNat ^^^ (x.getD k 0).toNat ^^^ (y.getD k 0).toNat)) = three a x y n (k + 1) := by
  apply List.ext_getElem
  · simp [three]
  · intro i h1 h2
    simp only [three, List.getElem_set, List.getElem_map, List.getElem_range]
    by_cases e : k = i
    · subst e; rw [if_pos rfl, if_pos (by omega)]
    · rw [if_neg e]
      by_cases e2 : i < k
      · rw [if_pos e2, if_pos (by omega)]
      · rw [if_neg e2, if_neg (by omega)]
theorem xor8_lt {x y : Nat} (hx : x < 256) (hy : y < 256) : x ^^^ y < 256 := Nat.xor_lt_two_pow (n := 8) hx hy
theorem three_nat (a x y : List UInt8) (j : Nat) : (UInt8.ofNat ((a.getD j 0).toNat ^^^ (x.getD j 0).toNat ^^^ (y.getD j 0).toNat)).toNat = (a.getD j 0).toNat ^^^ (x.getD j 0).toNat ^^^ (y.getD j 0).toNat := by
  have := xor8_lt (xor8_lt (UInt8.toNat_lt (a.getD j 0)) (UInt8.toNat_lt (x.getD j 0))) (UInt8.toNat_lt (y.getD j 0))
  simp only [UInt8.toNat_ofNat']
  omega
theorem three_sum {a x y : List UInt8} (hx : x.length = a.length) (hy : y.length = a.length) : sum a ^^^ sum x ^^^ sum y ^^^ sum (three a x y a.length a.length) = 0 := by
  refine fin_four (go_four a x y _ _ _ _ _ hx.symm hy.symm (three_length _ _ _ _ _).symm (by decide) fun i hi => ?_)
  have e : (three a x y a.length a.length).getD i 0 = UInt8.ofNat ((a.getD i 0).toNat ^^^ (x.getD i 0).toNat ^^^ (y.getD i 0).toNat) := by
    rw [List.getD_eq_getElem?_getD, List.getElem?_eq_getElem (by rw [three_length]; exact hi)]
    simp only [three, List.getElem_map, List.getElem_range, Option.getD_some]
    rw [if_pos hi]
  rw [e, three_nat, Nat.xor_self]
end Crc
theorem xor8 (a b : Nat) (h1 : a < 256) (h2 : b < 256) : bits .xor .u8 (a : Int) (b : Int) = ((a ^^^ b : Nat) : Int) := by
  have hl := Crc.xor8_lt h1 h2
  have e : (BitVec.ofNat 8 a ^^^ BitVec.ofNat 8 b).toNat = a ^^^ b := by
    rw [BitVec.toNat_xor, BitVec.toNat_ofNat, BitVec.toNat_ofNat, Nat.mod_eq_of_lt (by omega), Nat.mod_eq_of_lt (by omega)]
  have e2 : bits .xor .u8 (a : Int) (b : Int) = IntKind.u8.wrap (((BitVec.ofNat 8 a ^^^ BitVec.ofNat 8 b).toNat : Nat) : Int) := by
    have ea : BitVec.ofInt 8 (a : Int) = BitVec.ofNat 8 a := BitVec.ofInt_natCast 8 a
    have eb : BitVec.ofInt 8 (b : Int) = BitVec.ofNat 8 b := BitVec.ofInt_natCast 8 b
    rw [← ea, ← eb]; rfl
  rw [e2, e, IntKind.wrap_u8]
  omega
set_option maxRecDepth 100000 in
set_option maxHeartbeats 2000000 in
theorem sums_walk (a A b c : ByteArray) (w : World) (ha : a.size ≤ 140737488351232) (hA : A.size ≤ 5000) (hd : a.size ≤ 5000 ∧ A = a ∨ 5000 < a.size ∧ a.extract 0 5000 = A) :
    Calls Try.prog 6 #[.string a, .string b, .string c] w fun e w' => e = .returned (.bool true) ∧ Below w.heap.size w w' := by
  obtain ⟨w1, hmk1, hx1, hb1, hz1⟩ := BRow.make_run w A.size (by omega)
  obtain ⟨w2, hmk2, hy2, hb2, hz2⟩ := BRow.make_run w1 A.size (by omega)
  obtain ⟨w3, hmk3, hq3, hb3, hz3⟩ := BRow.make_run w2 A.size (by omega)
  have hlen : (List.replicate A.size (0 : UInt8)).length = A.size := List.length_replicate
  have hx3 := (hx1.below hb2 (by omega)).below hb3 (by omega)
  have hy3 := hy2.below hb3 (by omega)
  obtain ⟨w4, hcp4, hx4, hb4, ho4⟩ := hx3.copy_run b 3 A.size
  have hy4 : BRow w4 w1.heap.size (List.replicate A.size 0) := ⟨(ho4 _ (by omega)).trans hy3.blk⟩
  have hq4 : BRow w4 w2.heap.size (List.replicate A.size 0) := ⟨(ho4 _ (by omega)).trans hq3.blk⟩
  obtain ⟨w5, hcp5, hy5, hb5, ho5⟩ := hy4.copy_run c 3 A.size
  have hx5 : BRow w5 w.heap.size _ := ⟨(ho5 _ (by omega)).trans hx4.blk⟩
  have hq5 : BRow w5 w2.heap.size (List.replicate A.size 0) := ⟨(ho5 _ (by omega)).trans hq4.blk⟩
  rw [hlen] at hcp4 hcp5 hx5 hy5
  have hbl : Below w.heap.size w w5 := (((hb1.trans (hb2.mono (by omega))).trans (hb3.mono (by omega))).trans (hb4 _ (by omega))).trans (hb5 _ (by omega))
  rw [show b.data.toList.take A.size ++ (List.replicate A.size (0 : UInt8)).drop b.size = Crc.fit A.size b.data.toList from rfl] at hx5
  rw [show c.data.toList.take A.size ++ (List.replicate A.size (0 : UInt8)).drop c.size = Crc.fit A.size c.data.toList from rfl] at hy5
  have hxl := Crc.fit_length A.size b.data.toList
  have hyl := Crc.fit_length A.size c.data.toList
  generalize Crc.fit A.size b.data.toList = X at hx5 hxl
  generalize Crc.fit A.size c.data.toList = Y at hy5 hyl
  rw [← Crc.three_zero A.data.toList X Y] at hq5
  rw [show w1.heap.size = w.heap.size + 1 by omega] at *
  rw [show w2.heap.size = w.heap.size + 2 by omega] at *
  clear hx1 hb1 hy2 hb2 hq3 hb3 hx3 hy3 hx4 hb4 ho4 hy4 hq4 hb5 ho5 hz1 hz2 hz3 hlen
  have HX := Lib.hid hxl
  have HY := Lib.hid hyl
  clear hxl hyl
  rcases hd with ⟨h, rfl⟩ | ⟨h, hA'⟩
  all_goals
    go_enter Try.func6, Try.ntmps6
    go_wp2_with (go_at_call 9; refine (awake_any _).mono ?_; rintro e w' ⟨rfl, rfl⟩)
    clear hmk1 hmk2 hmk3 hcp4 hcp5
    go_loopw [11] (fun i wr => ∃ k : Nat, k ≤ A.size ∧ i = .int .i64 (k : Int) ∧ BRow wr w.heap.size X ∧ BRow wr (w.heap.size + 1) Y ∧ BRow wr (w.heap.size + 2) (Crc.three A.data.toList X Y A.size k) ∧ Below w.heap.size w wr) (fun i _ => A.size - (intOf i).toNat)
    case atStart => exact ⟨0, by omega, rfl, hx5, hy5, hq5, hbl⟩
    case round =>
      obtain ⟨k, hk, rfl, hX, hY, hZ, hB⟩ := hrel
      by_cases hlt : k < A.size
      · have cx := hX.cell (i := k) (by rw [HX.out]; exact hlt)
        have cy := hY.cell (i := k) (by rw [HY.out]; exact hlt)
        have cz := hZ.cell (i := k) (by rw [Crc.three_length]; exact hlt)
        have fz := hZ.frozen k
        have b1 : (0 : Int) ≤ (k : Int) := by omega
        have b2 : (k : Int) < (A.size : Int) := by omega
        have c0 := UInt8.toNat_lt A[k]
        have c1 := UInt8.toNat_lt (X.getD k 0)
        have c2 := UInt8.toNat_lt (Y.getD k 0)
        have c3 := Crc.xor8_lt c0 c1
        have x1 := xor8 _ _ c0 c1
        have x2 := xor8 _ _ c3 c2
        have hv : Hid ((((A[k]).toNat ^^^ (X.getD k 0).toNat ^^^ (Y.getD k 0).toNat : Nat) : Int) = (((UInt8.ofNat ((A.data.toList.getD k 0).toNat ^^^ (X.getD k 0).toNat ^^^ (Y.getD k 0).toNat)).toNat : Nat) : Int)) := Lib.hid (by
          rw [Crc.three_nat, byte_get A k hlt])
        have hn := Lib.hid (Crc.three_succ A.data.toList X Y A.size k hlt)
        generalize X.getD k 0 = xk at *
        generalize Y.getD k 0 = yk at *
        go_wp2
        go_region_held3 (fun w' => w'.cell? ⟨w.heap.size, k, none⟩ = some (.int .u8 ((xk.toNat : Nat) : Int)) ∧ w'.cell? ⟨w.heap.size + 1, k, none⟩ = some (.int .u8 ((yk.toNat : Nat) : Int))) (go_keep) (fail)
        all_goals
          go_wp2
          go_roundw
          case rel => exact ⟨k + 1, by omega, by go_num, (hX.other (by omega) _ _).drew, (hY.other (by omega) _ _).drew, (by rw [← hn.out]; exact (hZ.set (by rw [Crc.three_length]; exact hlt) _ _ hv.out).drew), (hB.setCell (by simp) _).drew⟩
          case measure => simp [intOf]; omega
      · obtain rfl : k = A.size := by omega
        have vx := fun n => (show BRow (wr.drewN n) w.heap.size X from ⟨hX.blk⟩).str A.size A.size HX.out.symm
        have vy := fun n => (show BRow (wr.drewN n) (w.heap.size + 1) Y from ⟨hY.blk⟩).str A.size A.size HY.out.symm
        have vz := fun n => (show BRow (wr.drewN n) (w.heap.size + 2) _ from ⟨hZ.blk⟩).str A.size A.size (Crc.three_length _ _ _ _ _).symm
        have hs : Crc.sum A.data.toList ^^^ Crc.sum (lineOf X).data.toList ^^^ Crc.sum (lineOf Y).data.toList ^^^ Crc.sum (lineOf (Crc.three A.data.toList X Y A.size A.size)).data.toList = 0 := by
          have := Crc.three_sum (a := A.data.toList) (x := X) (y := Y) (by rw [HX.out]; simp) (by rw [HY.out]; simp)
          simpa [list_lineOf] using this
        have sx : (lineOf X).size ≤ 5000 := by rw [lineOf_size, HX.out]; omega
        have sy : (lineOf Y).size ≤ 5000 := by rw [lineOf_size, HY.out]; omega
        have sz : (lineOf (Crc.three A.data.toList X Y A.size A.size)).size ≤ 5000 := by rw [lineOf_size, Crc.three_length]; omega
        have l0 := Crc.sum_lt A.data.toList
        have l1 := Crc.sum_lt (lineOf X).data.toList
        have l2 := Crc.sum_lt (lineOf Y).data.toList
        have l3 := Crc.sum_lt (lineOf (Crc.three A.data.toList X Y A.size A.size)).data.toList
        generalize lineOf X = SX at *
        generalize lineOf Y = SY at *
        generalize lineOf (Crc.three A.data.toList X Y A.size A.size) = SZ at *
        have k1 := xor32 _ _ l0 l1
        have m1 := Crc.xor_lt l0 l1
        have k2 := xor32 _ _ m1 l2
        have k3 := xor32 _ _ (Crc.xor_lt m1 l2) l3
        clear hX hY hZ m1 l0 l1 l2 l3
        go_wp2
        go_quiet ((go_at_call 10; exact Calls.quiet_of_same ((sum_any _ _ (by unfold maxLen; omega)).mono fun _ _ h => ⟨h.1, h.2.symm⟩)))
        go_wp2
        go_ret
        exact ⟨rfl, ⟨hB.os, hB.tape, hB.output, hB.size, hB.block⟩⟩
end Go.Proofs.Ytbjdpepldialeaa
