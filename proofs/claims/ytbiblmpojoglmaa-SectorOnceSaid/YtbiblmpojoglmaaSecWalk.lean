/- sector: Seal and Open. -/
import Derived.Test.YtbiblmpojoglmaaPackFill
import Derived.Test.YtbiblmpojoglmaaSl
import Derived.Test.YtbiblmpojoglmaaSecMath
import Derived.Test.YtbiblmpojoglmaaCrcWalk
namespace Go.Proofs.Ytbiblmpojoglmaa
open Go.RowKit
set_option linter.unusedVariables false
set_option linter.unusedSimpArgs false

theorem below_c' {w0 w w' : World} (h : Below w0.heap.size w0 w) (hb : Below w.heap.size w w') : Below w0.heap.size w0 w' := h.trans (hb.mono h.size)
/-- A list written out. -/
theorem lit_reads (w : World) (E : TypeId) (xs : List Value) : Reads (w.alloc (.cells xs.toArray E)) (.slice (some ⟨w.heap.size, 0, none⟩) xs.length xs.length) xs :=
  .inr ⟨w.heap.size, 0, xs.length, rfl, by simp, fun i hi => by rw [Nat.zero_add, World.cell?_alloc_mark]; simp [List.getD_eq_getElem?_getD, hi]⟩
set_option maxHeartbeats 1000000 in
theorem all_any (v : Value) (l : List Bool) (w : World) (h : Reads w v (l.map .bool)) (hn : l.length ≤ 100) :
    Calls Try.prog 16 #[v] w fun e w' => e = .returned (.bool (l.all id)) ∧ w = w' := by
  have hl := fun W => h.len_run (P := Try.prog) Try.underlying45 3 W
  rw [List.length_map] at hl
  go_enter Try.func16, Try.ntmps16
  go_wp2_with (fail)
  go_loop [4, 7] (fun _ i => ∃ k : Nat, k ≤ l.length ∧ i = .int .i64 (k : Int) ∧ (l.take k).all id = true) (fun _ i => l.length - (intOf i).toNat)
  case atStart => exact ⟨0, by omega, rfl, rfl⟩
  case round =>
    obtain ⟨k, hk, rfl, hal⟩ := hrel
    by_cases hlt : k < l.length
    · have b1 : (k : Int) < (l.length : Int) := by omega
      rcases h with ⟨_, e⟩ | ⟨b, off, cap, rfl, hb, hc⟩
      · have := congrArg List.length e; rw [List.length_map, List.length_nil] at this; omega
      have hck := hc k (by rw [List.length_map]; exact hlt)
      have e0 : (l.map Value.bool).getD k .nilFunc = .bool l[k] := by simp [List.getD_eq_getElem?_getD, hlt]
      rw [e0] at hck
      have b2 : (k : Int) < ((l.map Value.bool).length : Int) := by rw [List.length_map]; exact b1
      have ht : (l.take (k + 1)).all id = ((l.take k).all id && l[k]) := by rw [List.take_succ_eq_append_getElem hlt, List.all_append]; simp
      rw [hal, Bool.true_and] at ht
      cases hb1 : l[k] with
      | true =>
        rw [hb1] at hck ht
        have ht' := Lib.hid ht
        clear ht hb1 hc hal e0
        go_wp2
        go_round
        case rel => exact ⟨k + 1, by omega, by go_num, ht'.out⟩
        case measure => simp [intOf]; omega
      | false =>
        have hz : Hid (l.all id = false) := Lib.hid (by
          rw [List.all_eq_false]; exact ⟨l[k], List.getElem_mem hlt, by simp [hb1]⟩)
        rw [hb1] at hck
        clear ht hb1 hc hal e0
        go_wp2
        go_ret
        exact ⟨by rw [hz.out]; rfl, rfl⟩
    · have e : k = l.length := by omega
      subst e
      rw [List.take_length] at hal
      have hz := Lib.hid hal
      clear hal
      go_wp2
      go_ret
      exact ⟨by rw [hz.out]; rfl, rfl⟩
def SaysS (w : World) (s : ByteArray) (e : Ending) (w' : World) : Prop := e = .returned (.string s) ∧ Below w.heap.size w w'
theorem number_any (n width : Int) (w : World) : Calls Try.prog 18 #[.int .i64 n, .int .i64 width] w (SaysS w (numL n width)) := by
  have hn := fun W => num_any n width W
  generalize numL n width = s at *
  generalize numE n width = m at *
  go_enter Try.func18, Try.ntmps18
  go_wp2_with (fail)
  refine (hn _).mono ?_
  rintro e w1 ⟨rfl, hb⟩
  go_wp2_with (fail)
  go_ret
  exact ⟨rfl, hb⟩
theorem numL_nat (n W : Nat) (h1 : 1 ≤ W) (h2 : W ≤ 7) (h : n < 256 ^ W) : numL (n : Int) (W : Int) = lineOf (Pk.be W n) := by
  have hb : numB (n : Int) (W : Int) = true := by unfold numB; rw [decide_eq_true_eq]; exact ⟨by omega, by omega, by omega, by simpa using h⟩
  rw [numL, if_pos hb, show ((W : Int)).toNat = W by omega, show ((n : Int)).toNat = n by omega]
theorem number_nat (n W : Nat) (w : World) (h1 : 1 ≤ W) (h2 : W ≤ 7) (h : n < 256 ^ W) : Calls Try.prog 18 #[.int .i64 (n : Int), .int .i64 (W : Int)] w (SaysS w (lineOf (Pk.be W n))) := by
  have := number_any (n : Int) (W : Int) w
  rw [numL_nat n W h1 h2 h] at this
  exact this
def sealOk (id slot at_ : Int) (p : ByteArray) : Bool := decide (1 ≤ id ∧ id ≤ 65535 ∧ 0 ≤ slot ∧ slot ≤ 6 ∧ 0 ≤ at_ ∧ at_ ≤ 255 ∧ (p.size : Int) ≤ 120)
def secS (i l a : Nat) (p : ByteArray) : ByteArray := lineOf (Sec.secL i l a p.data.toList)
def sealL (id slot at_ : Int) (p : ByteArray) : ByteArray := if sealOk id slot at_ p then secS id.toNat slot.toNat at_.toNat p else ⟨#[]⟩
def sealE (id slot at_ : Int) (p : ByteArray) : Int := if sealOk id slot at_ p then 0 else 60
theorem seal_bad (w : World) (id slot at_ : Int) (p : ByteArray) (h : Hid (sealOk id slot at_ p = false)) (W : World) (hb : Below w.heap.size w W) : Tells2 w (sealL id slot at_ p) (sealE id slot at_ p) (.returned (.tuple #[.string ⟨#[]⟩, .int .i64 60])) W :=
  ⟨by rw [sealL, sealE, h.out]; rfl, hb⟩
theorem seal_good {i l a : Nat} {p : ByteArray} (h1 : 1 ≤ i) (h2 : i ≤ 65535) (h3 : l ≤ 6) (h4 : a ≤ 255) (h5 : p.size ≤ 120) : sealL (i : Int) (l : Int) (a : Int) p = secS i l a p ∧ sealE (i : Int) (l : Int) (a : Int) p = 0 := by
  have hb : sealOk (i : Int) (l : Int) (a : Int) p = true := by unfold sealOk; rw [decide_eq_true_eq]; omega
  rw [sealL, sealE, if_pos hb, if_pos hb]; exact ⟨rfl, rfl⟩
/-- The parts of a sector, put together. -/
theorem sec_parts (i l a : Nat) (p : ByteArray) :
    padB p 120 ++ lineOf (Pk.be 2 i) ++ lineOf (Pk.be 1 l) ++ lineOf (Pk.be 1 a) = lineOf (Sec.headL i l a p.data.toList) ∧
    lineOf (Sec.headL i l a p.data.toList) ++ lineOf (Pk.be 4 (Crc.sum (Sec.headL i l a p.data.toList))) = secS i l a p := by
  constructor
  · rw [line_append, line_append, line_append, padB, list_lineOf, list_lineOf, list_lineOf]; rfl
  · rw [line_append, list_lineOf]; rfl
set_option maxRecDepth 100000 in
set_option maxHeartbeats 2000000 in
theorem seal_right (i l a : Nat) (p : ByteArray) (w : World) (h1 : 1 ≤ i) (h2 : i ≤ 65535) (h3 : l ≤ 6) (h4 : a ≤ 255) (h5 : p.size ≤ 120) :
    Calls Try.prog 10 #[.int .i64 (i : Int), .int .i64 (l : Int), .int .i64 (a : Int), .string p] w (Tells2 w (secS i l a p) 0) := by
  have t1 : decide ((1 : Int) ≤ (i : Int)) = true := by rw [decide_eq_true_eq]; omega
  have t2 : decide ((i : Int) ≤ 65535) = true := by rw [decide_eq_true_eq]; omega
  have t3 : decide ((0 : Int) ≤ (l : Int)) = true := by rw [decide_eq_true_eq]; omega
  have t4 : decide ((l : Int) ≤ 6) = true := by rw [decide_eq_true_eq]; omega
  have t5 : decide ((0 : Int) ≤ (a : Int)) = true := by rw [decide_eq_true_eq]; omega
  have t6 : decide ((a : Int) ≤ 255) = true := by rw [decide_eq_true_eq]; omega
  have t7 : decide ((p.size : Int) ≤ 120) = true := by rw [decide_eq_true_eq]; omega
  have hal := fun W v h => all_any v [true, true, true, true, true, true, true] W h (by decide)
  rw [show [true, true, true, true, true, true, true].all id = true from rfl] at hal
  have hfl := fun W => fill_any p 120 W (by omega)
  obtain ⟨g1, g2⟩ := fill_good w p 120 (by omega) h5
  rw [show ((120 : Nat) : Int) = 120 from rfl] at g1 g2
  rw [g1, g2] at hfl
  have n1 := fun W => number_nat i 2 W (by decide) (by decide) (by omega)
  have n2 := fun W => number_nat l 1 W (by decide) (by decide) (by omega)
  have n3 := fun W => number_nat a 1 W (by decide) (by decide) (by omega)
  have hcs : Crc.sum (Sec.headL i l a p.data.toList) < 4294967296 := Sec.sum_lt _
  have n4 := fun W => number_nat (Crc.sum (Sec.headL i l a p.data.toList)) 4 W (by decide) (by decide) hcs
  have hsm := fun W h => sum_any (lineOf (Sec.headL i l a p.data.toList)) W h
  rw [list_lineOf] at hsm
  obtain ⟨q1, q2⟩ := sec_parts i l a p
  have z1 : (padB p 120).size ≤ 120 := by rw [padB, lineOf_size, Pk.pad_length (by simpa using h5)]; omega
  have z2 : (lineOf (Pk.be 2 i)).size ≤ 2 := by rw [lineOf_size, Pk.be_length]; omega
  have z3 : (lineOf (Pk.be 1 l)).size ≤ 1 := by rw [lineOf_size, Pk.be_length]; omega
  have z4 : (lineOf (Pk.be 1 a)).size ≤ 1 := by rw [lineOf_size, Pk.be_length]; omega
  have z5 : (lineOf (Sec.headL i l a p.data.toList)).size ≤ 124 := by rw [lineOf_size, Sec.head_length _ _ _ (by simpa using h5)]; omega
  have z6 : (lineOf (Pk.be 4 (Crc.sum (Sec.headL i l a p.data.toList)))).size ≤ 4 := by rw [lineOf_size, Pk.be_length]; omega
  have z12 : (padB p 120 ++ lineOf (Pk.be 2 i)).size ≤ 122 := by rw [ByteArray.size_append]; omega
  have z13 : (padB p 120 ++ lineOf (Pk.be 2 i) ++ lineOf (Pk.be 1 l)).size ≤ 123 := by rw [ByteArray.size_append]; omega
  have q1' := Lib.hid q1
  have q2' := Lib.hid q2
  clear q1 q2 g1 g2
  generalize padB p 120 = x1 at *
  generalize lineOf (Pk.be 2 i) = x2 at *
  generalize lineOf (Pk.be 1 l) = x3 at *
  generalize lineOf (Pk.be 1 a) = x4 at *
  generalize lineOf (Pk.be 4 (Crc.sum (Sec.headL i l a p.data.toList))) = x6 at *
  generalize Crc.sum (Sec.headL i l a p.data.toList) = cs at *
  generalize lineOf (Sec.headL i l a p.data.toList) = x5 at *
  go_enter Try.func10, Try.ntmps10
  go_wp2_with (fail)
  refine (hal _ _ (lit_reads w 4 [.bool true, .bool true, .bool true, .bool true, .bool true, .bool true, .bool true])).mono ?_
  rintro e w0 ⟨rfl, rfl⟩
  go_wp2_with (fail)
  refine (hfl _).mono ?_
  rintro e w1 ⟨rfl, b1⟩
  have b1 := below_c' ((Below.refl w.heap.size w).alloc (Nat.le_refl _) _) b1
  go_wp2_with (fail)
  refine (n1 _).mono ?_
  rintro e w2 ⟨rfl, b2⟩
  go_wp2_with (fail)
  refine (n2 _).mono ?_
  rintro e w3 ⟨rfl, b3⟩
  go_wp2_with (fail)
  refine (n3 _).mono ?_
  rintro e w4 ⟨rfl, b4⟩
  go_wp2_with (fail)
  rw [q1'.out]
  refine (hsm _ (by unfold maxLen; omega)).mono ?_
  rintro e w5 ⟨rfl, rfl⟩
  go_wp2_with (fail)
  refine (n4 _).mono ?_
  rintro e w6 ⟨rfl, b6⟩
  go_wp2_with (fail)
  go_ret2
  exact ⟨by rw [q2'.out]; rfl, below_c' (below_c' (below_c' (below_c' b1 b2) b3) b4) b6⟩
theorem seal_any (d slot at_ : Int) (p : ByteArray) (w : World) (hp : p.size ≤ 140737488351232) :
    Calls Try.prog 10 #[.int .i64 d, .int .i64 slot, .int .i64 at_, .string p] w (Tells2 w (sealL d slot at_ p) (sealE d slot at_ p)) := by
  by_cases h : sealOk d slot at_ p = true
  · have h' := h
    unfold sealOk at h'
    rw [decide_eq_true_eq] at h'
    obtain ⟨i, rfl⟩ := Int.eq_ofNat_of_zero_le (show 0 ≤ d by omega)
    obtain ⟨l, rfl⟩ := Int.eq_ofNat_of_zero_le (show 0 ≤ slot by omega)
    obtain ⟨a, rfl⟩ := Int.eq_ofNat_of_zero_le (show 0 ≤ at_ by omega)
    obtain ⟨g1, g2⟩ := seal_good (i := i) (l := l) (a := a) (p := p) (by omega) (by omega) (by omega) (by omega) (by omega)
    rw [g1, g2]
    exact seal_right i l a p w (by omega) (by omega) (by omega) (by omega) (by omega)
  · obtain ⟨c1, t1⟩ : ∃ b, decide (1 ≤ d) = b := ⟨_, rfl⟩
    obtain ⟨c2, t2⟩ : ∃ b, decide (d ≤ 65535) = b := ⟨_, rfl⟩
    obtain ⟨c3, t3⟩ : ∃ b, decide (0 ≤ slot) = b := ⟨_, rfl⟩
    obtain ⟨c4, t4⟩ : ∃ b, decide (slot ≤ 6) = b := ⟨_, rfl⟩
    obtain ⟨c5, t5⟩ : ∃ b, decide (0 ≤ at_) = b := ⟨_, rfl⟩
    obtain ⟨c6, t6⟩ : ∃ b, decide (at_ ≤ 255) = b := ⟨_, rfl⟩
    obtain ⟨c7, t7⟩ : ∃ b, decide ((p.size : Int) ≤ 120) = b := ⟨_, rfl⟩
    have hall : [c1, c2, c3, c4, c5, c6, c7].all id = false := by
      have hs : sealOk d slot at_ p = (decide (1 ≤ d) && (decide (d ≤ 65535) && (decide (0 ≤ slot) && (decide (slot ≤ 6) && (decide (0 ≤ at_) && (decide (at_ ≤ 255) && decide ((p.size : Int) ≤ 120))))))) := by
        unfold sealOk; simp only [Bool.decide_and]
      rw [t1, t2, t3, t4, t5, t6, t7] at hs
      rw [hs] at h
      simpa using h
    have hal := fun W v hv => all_any v [c1, c2, c3, c4, c5, c6, c7] W hv (by simp)
    rw [hall] at hal
    have hz : Hid (sealOk d slot at_ p = false) := Lib.hid (by simpa using h)
    clear hall h
    go_enter Try.func10, Try.ntmps10
    go_wp2_with (fail)
    refine (hal _ _ (lit_reads w 4 [.bool c1, .bool c2, .bool c3, .bool c4, .bool c5, .bool c6, .bool c7])).mono ?_
    rintro e w0 ⟨rfl, rfl⟩
    go_wp2_with (fail)
    go_ret2
    exact seal_bad w d slot at_ p hz _ ((Below.refl w.heap.size w).alloc (Nat.le_refl _) _)
end Go.Proofs.Ytbiblmpojoglmaa
