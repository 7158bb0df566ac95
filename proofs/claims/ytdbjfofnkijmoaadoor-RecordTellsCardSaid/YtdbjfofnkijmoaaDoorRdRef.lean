/- Readers: the document's own. -/
import Derived.Test.YtdbjfofnkijmoaaDoorRdBase
import Derived.IntWalk
namespace Go.Proofs.YtdbjfofnkijmoaaDoor
open Go.RowKit
set_option linter.unusedVariables false
set_option linter.unusedSimpArgs false

def okT (s : ByteArray) (bad : Bool) (n : Int) : Bool := !bad && decide (0 ≤ n ∧ n ≤ (s.size : Int))
def txtS (s : ByteArray) (bad : Bool) (n : Int) : ByteArray := if okT s bad n then s.extract 0 n.toNat else ⟨#[]⟩
def txtR (s : ByteArray) (bad : Bool) (n : Int) : ByteArray := if okT s bad n then s.extract n.toNat s.size else s
def okN (s : ByteArray) (bad : Bool) (n : Int) : Bool := !bad && decide (1 ≤ n ∧ n ≤ 7 ∧ n ≤ (s.size : Int))
def numV (s : ByteArray) (bad : Bool) (n : Int) : Nat := if okN s bad n then Pk.val (s.extract 0 n.toNat).data.toList else 0
def numR (s : ByteArray) (bad : Bool) (n : Int) : ByteArray := if okN s bad n then s.extract n.toNat s.size else s
def Takes (w : World) (b : Nat) (v : Value) (s : ByteArray) (bad : Bool) (e : Ending) (w' : World) : Prop := e = .returned v ∧ RdTo w b s bad w'
theorem from_run {P : Program} {T : TypeId} (hT : P.underlying T = some .string) (s : ByteArray) (a : Nat) (h1 : a ≤ s.size) (W : World) :
    (Instr.slice T (.string s) (some (.int .i64 (a : Int))) none none).run P W = .ok (.string (s.extract a s.size)) W := by
  simp [Instr.slice, run_underlying hT, Instr.sliceBounds, Instr.sliceBound, asIntOf, h1]
theorem to_run {P : Program} {T : TypeId} (hT : P.underlying T = some .string) (s : ByteArray) (b : Nat) (h2 : b ≤ s.size) (W : World) :
    (Instr.slice T (.string s) none (some (.int .i64 (b : Int))) none).run P W = .ok (.string (s.extract 0 b)) W := by
  simp [Instr.slice, run_underlying hT, Instr.sliceBounds, Instr.sliceBound, asIntOf, h2]
theorem rnew_any (s : ByteArray) (w : World) : Calls Tryd.prog 55 #[.string s] w fun e w' => e = .returned (.pointer (some ⟨w.heap.size, 0, none⟩)) ∧ w' = w.alloc (.cells #[.string s, .bool false] 96) := by
  go_enter Tryd.func55, Tryd.ntmps55
  go_wp2
  go_ret
  exact ⟨rfl, rfl⟩
theorem rtext_bad (b : Nat) (s : ByteArray) (bad : Bool) (n : Int) (w : World) (h : RdAt w b s bad) (hz : Hid (okT s bad n = false)) : Takes w b (.string (txtS s bad n)) (txtR s bad n) (!okT s bad n) (.returned (.string ⟨#[]⟩)) (w.setCell ⟨b, 1, none⟩ (.bool true)) :=
  ⟨by rw [txtS, hz.out]; rfl, by rw [txtR, hz.out]; exact h.set1 true⟩
set_option maxHeartbeats 1000000 in
theorem rtext_any (b : Nat) (s : ByteArray) (bad : Bool) (n : Int) (w : World) (h : RdAt w b s bad) :
    Calls Tryd.prog 56 #[.pointer (some ⟨b, 0, none⟩), .int .i64 n] w (Takes w b (.string (txtS s bad n)) (txtR s bad n) (!okT s bad n)) := by
  have c0 := h.c0
  have c1 := h.c1
  have f0 := h.f0
  have f1 := h.f1
  cases bad with
  | true =>
    have hz : Hid (okT s true n = false) := Lib.hid rfl
    go_enter Tryd.func56, Tryd.ntmps56
    go_wp2
    go_ret
    exact rtext_bad b s true n w h hz
  | false =>
    by_cases h0 : n < 0
    · have t0 : decide (n < 0) = true := by rw [decide_eq_true_eq]; omega
      have hz : Hid (okT s false n = false) := Lib.hid (by unfold okT; rw [decide_eq_false (by omega)]; rfl)
      clear h0
      go_enter Tryd.func56, Tryd.ntmps56
      go_wp2
      go_ret
      exact rtext_bad b s false n w h hz
    · have t0 : decide (n < 0) = false := by rw [decide_eq_false_iff_not]; omega
      by_cases h1 : (s.size : Int) < n
      · have t1 : decide ((s.size : Int) < n) = true := by rw [decide_eq_true_eq]; omega
        have hz : Hid (okT s false n = false) := Lib.hid (by unfold okT; rw [decide_eq_false (by omega)]; rfl)
        clear h0 h1
        go_enter Tryd.func56, Tryd.ntmps56
        go_wp2
        go_ret
        exact rtext_bad b s false n w h hz
      · obtain ⟨k, rfl⟩ := Int.eq_ofNat_of_zero_le (show 0 ≤ n by omega)
        have t1 : decide (s.size < k) = false := by rw [decide_eq_false_iff_not]; omega
        have hz : Hid (okT s false (k : Int) = true) := Lib.hid (by unfold okT; rw [decide_eq_true (by omega)]; rfl)
        have g1 := fun W => to_run (P := Tryd.prog) (T := 9) Tryd.underlying9 s k (by omega) W
        have g2 := fun W => from_run (P := Tryd.prog) (T := 9) Tryd.underlying9 s k (by omega) W
        have hx : Hid (txtS s false (k : Int) = s.extract 0 k ∧ txtR s false (k : Int) = s.extract k s.size) := Lib.hid (by rw [txtS, txtR, hz.out]; exact ⟨rfl, rfl⟩)
        have h2 : (k : Int) ≤ (s.size : Int) := by omega
        clear h0 h1
        generalize s.extract 0 k = u at *
        generalize s.extract k s.size = v at *
        go_enter Tryd.func56, Tryd.ntmps56
        go_wp2
        go_ret
        exact ⟨by rw [hx.out.1]; rfl, by rw [hx.out.2, hz.out]; exact h.set0 v⟩
theorem txt_size (s : ByteArray) (bad : Bool) (n : Int) : (txtS s bad n).size ≤ s.size := by
  rw [txtS]
  split
  · simp [ByteArray.size_extract]; omega
  · exact Nat.zero_le _
theorem val_take_succ (l : List UInt8) (k : Nat) (h : k < l.length) : Pk.val (l.take (k + 1)) = 256 * Pk.val (l.take k) + l[k].toNat := by
  rw [List.take_succ_eq_append_getElem h, Pk.val_snoc]
theorem okN_okT {s : ByteArray} {bad : Bool} {n : Int} (h1 : 1 ≤ n) (h2 : n ≤ 7) : okT s bad n = okN s bad n := by
  unfold okT okN
  congr 1
  rw [decide_eq_decide]; omega
set_option maxRecDepth 100000 in
set_option maxHeartbeats 1000000 in
theorem rnumr_any (b : Nat) (s : ByteArray) (bad : Bool) (n : Int) (w : World) (h : RdAt w b s bad) :
    Calls Tryd.prog 57 #[.pointer (some ⟨b, 0, none⟩), .int .i64 n] w (Takes w b (.int .i64 ((numV s bad n : Nat) : Int)) (numR s bad n) (!okN s bad n)) := by
  have c0 := h.c0
  have c1 := h.c1
  have f1 := h.f1
  by_cases h0 : n < 1
  · have t0 : decide (n < 1) = true := by rw [decide_eq_true_eq]; omega
    have hz : Hid (okN s bad n = false) := Lib.hid (by unfold okN; rw [decide_eq_false (by omega), Bool.and_false])
    clear h0
    go_enter Tryd.func57, Tryd.ntmps57
    go_wp2
    go_ret
    exact ⟨by rw [numV, hz.out]; rfl, by rw [numR, hz.out]; exact h.set1 true⟩
  · have t0 : decide (n < 1) = false := by rw [decide_eq_false_iff_not]; omega
    by_cases h1 : 7 < n
    · have t1 : decide (7 < n) = true := by rw [decide_eq_true_eq]; omega
      have hz : Hid (okN s bad n = false) := Lib.hid (by unfold okN; rw [decide_eq_false (by omega), Bool.and_false])
      clear h0 h1
      go_enter Tryd.func57, Tryd.ntmps57
      go_wp2
      go_ret
      exact ⟨by rw [numV, hz.out]; rfl, by rw [numR, hz.out]; exact h.set1 true⟩
    · have t1 : decide (7 < n) = false := by rw [decide_eq_false_iff_not]; omega
      have ht := rtext_any b s bad n w h
      have hok := okN_okT (s := s) (bad := bad) (n := n) (by omega) (by omega)
      have hR : Hid (txtR s bad n = numR s bad n ∧ okT s bad n = okN s bad n) := Lib.hid ⟨by rw [txtR, numR, hok], hok⟩
      have hS : (txtS s bad n).size ≤ 7 := by
        rw [txtS]; split
        · simp [ByteArray.size_extract]; omega
        · exact Nat.zero_le _
      have hV : Hid (Pk.val (txtS s bad n).data.toList = numV s bad n) := Lib.hid (by
        rw [txtS, numV, hok]; split <;> rfl)
      clear h0 h1 hok
      generalize txtS s bad n = t at *
      go_enter Tryd.func57, Tryd.ntmps57
      go_wp2_with (fail)
      refine ht.mono ?_
      rintro e w1 ⟨rfl, hr⟩
      go_wp2_with (fail)
      go_loopw [6, 7] (fun v i wr => ∃ k : Nat, k ≤ t.size ∧ i = .int .i64 (k : Int) ∧ v = .int .i64 ((Pk.val (t.data.toList.take k) : Nat) : Int) ∧ w1 = wr) (fun _ i _ => t.size - (intOf i).toNat)
      case atStart => exact ⟨0, by omega, rfl, rfl, rfl⟩
      case round =>
        obtain ⟨k, hk, rfl, rfl, rfl⟩ := hrel
        by_cases hlt : k < t.size
        · have b1 : (k : Int) < (t.size : Int) := by omega
          have hl : (t.data.toList.take k).length ≤ 6 := by rw [List.length_take]; omega
          have hv := Pk.val_lt (t.data.toList.take k)
          have hp : 256 ^ (t.data.toList.take k).length ≤ 256 ^ 6 := Nat.pow_le_pow_right (by decide) hl
          have hv2 : Pk.val (t.data.toList.take k) < 281474976710656 := Nat.lt_of_lt_of_le hv hp
          have hx := Lib.hid (val_take_succ t.data.toList k (by simpa using hlt))
          clear hv hp hl
          generalize Pk.val (t.data.toList.take k) = q at *
          go_wp2
          go_roundw
          case rel => exact ⟨k + 1, by omega, by go_num, congrArg (Value.int .i64) (by
            have hb : t[k].toNat < 256 := UInt8.toNat_lt _
            have e1 : wrap64 ((t[k].toNat : Nat) : Int) = ((t[k].toNat : Nat) : Int) := IntWalk.wrap64_in _ ⟨by omega, by omega⟩
            rw [hx.out, e1]
            rw [show wrap64 (256 * (q : Int) + ((t[k].toNat : Nat) : Int)) = 256 * (q : Int) + ((t[k].toNat : Nat) : Int) from IntWalk.wrap64_in _ ⟨by omega, by omega⟩]
            rw [Int.natCast_add, Int.natCast_mul]
            rfl), (by first | rfl | trivial)⟩
          case measure => simp [intOf]; omega
        · have e : k = t.size := by omega
          subst e
          rw [List.take_of_length_le (by simp)]
          rw [hV.out]
          go_wp2
          go_ret
          exact ⟨rfl, by rw [← hR.out.1, ← hR.out.2]; exact hr⟩
set_option maxHeartbeats 1000000 in
theorem rends_any (b : Nat) (s : ByteArray) (bad : Bool) (w : World) (h : RdAt w b s bad) (hs : s.size ≤ 140737488355328) : Calls Tryd.prog 58 #[.pointer (some ⟨b, 0, none⟩)] w fun e w' => e = .returned (.bool (!bad && zeroB s)) ∧ w = w' := by
  have c0 := h.c0
  have c1 := h.c1
  go_enter Tryd.func58, Tryd.ntmps58
  go_wp2
  go_loop [3] (fun i => ∃ k : Nat, k ≤ s.size ∧ i = .int .i64 (k : Int) ∧ Hid ((s.data.toList.take k).all (· == 0) = true)) (fun i => s.size - (intOf i).toNat)
  case atStart => exact ⟨0, by omega, rfl, Lib.hid rfl⟩
  case round =>
    obtain ⟨k, hk, rfl, hal⟩ := hrel
    by_cases hlt : k < s.size
    · have b1 : (k : Int) < (s.size : Int) := by omega
      have hl : k < s.data.toList.length := by simpa using hlt
      have hx : (s.data.toList.take (k + 1)).all (· == 0) = (s[k] == 0) := by
        rw [List.take_succ_eq_append_getElem hl, List.all_append, hal.out, Bool.true_and]
        simp; rfl
      by_cases hb : s[k] = 0
      · have t2 : (((s[k].toNat : Nat) : Int) != 0) = false := by rw [hb]; rfl
        have hx2 : Hid ((s.data.toList.take (k + 1)).all (· == 0) = true) := Lib.hid (by rw [hx, hb]; rfl)
        clear hx hb hal
        go_wp2
        go_round
        case rel => exact ⟨k + 1, by omega, by go_num, hx2⟩
        case measure => simp [intOf]; omega
      · have t2 : (((s[k].toNat : Nat) : Int) != 0) = true := by
          rw [bne_iff_ne]
          intro e
          apply hb
          rw [← UInt8.toNat_inj]
          show s[k].toNat = 0
          omega
        have hz : Hid ((!bad && zeroB s) = false) := Lib.hid (by
          have : zeroB s = false := by
            unfold zeroB
            rw [List.all_eq_false]
            exact ⟨s[k], List.getElem_mem hl, by simpa using hb⟩
          rw [this, Bool.and_false])
        clear hx hb hal
        go_wp2
        go_ret
        exact ⟨by rw [hz.out]; rfl, (by first | rfl | trivial)⟩
    · have e : k = s.size := by omega
      subst e
      have hz : Hid ((!bad && zeroB s) = !bad) := Lib.hid (by
        have : zeroB s = true := by have := hal.out; rw [List.take_of_length_le (by simp)] at this; exact this
        rw [this, Bool.and_true])
      clear hal
      go_wp2
      go_ret
      exact ⟨by rw [hz.out]; rfl, (by first | rfl | trivial)⟩
end Go.Proofs.YtdbjfofnkijmoaaDoor
