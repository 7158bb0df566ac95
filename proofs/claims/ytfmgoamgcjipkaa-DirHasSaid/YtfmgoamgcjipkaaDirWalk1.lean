/- dir: letters, digits, names, roots. -/
import Derived.Test.YtfmgoamgcjipkaaDirCode
import Derived.Test.YtfmgoamgcjipkaaCls
namespace Go.Proofs.Ytfmgoamgcjipkaa
open Go.RowKit
set_option linter.unusedVariables false
set_option linter.unusedSimpArgs false
open Dr

def byN (s : ByteArray) (k : Nat) : Nat := (s.data.toList.getD k 0).toNat
theorem byN_le (s : ByteArray) (k : Nat) : byN s k ≤ 255 := by
  have := UInt8.toNat_lt (s.data.toList.getD k 0); unfold byN; omega
theorem str_byN (s : ByteArray) (k : Nat) (hk : k < s.size) (W : World) : (Instr.index 9 (.string s) (.int .i64 (k : Int))).run Try.prog W = .ok (.int .u8 ((byN s k : Nat) : Int)) W := by
  have e : s[k].toNat = byN s k := by
    unfold byN
    have hk' : k < s.data.size := hk
    have e1 : s.data.toList.getD k 0 = s.data[k] := by rw [List.getD_eq_getElem?_getD, List.getElem?_eq_getElem (by simpa using hk')]; simp
    rw [e1]; rfl
  rw [← e]
  simp [Instr.index, run_underlying Try.underlying9, asIntOf, hk]
def SaysB (w : World) (b : Bool) (e : Ending) (w' : World) : Prop := e = .returned (.bool b) ∧ w = w'
theorem isletter_any (c : Nat) (w : World) : Calls Try.prog 46 #[.int .u8 (c : Int)] w (SaysB w (isL c)) := by
  by_cases h1 : 97 ≤ c
  · have t1 : decide ((97 : Int) ≤ (c : Int)) = true := by rw [decide_eq_true_eq]; omega
    by_cases h2 : c ≤ 122
    · have t2 : decide ((c : Int) ≤ 122) = true := by rw [decide_eq_true_eq]; omega
      have hz : Hid (isL c = true) := Lib.hid (decide_eq_true ⟨h1, h2⟩)
      clear h1 h2
      go_enter Try.func46, Try.ntmps46
      go_wp2
      go_ret
      exact ⟨by rw [hz.out]; rfl, rfl⟩
    · have t2 : decide ((c : Int) ≤ 122) = false := by rw [decide_eq_false_iff_not]; omega
      have hz : Hid (isL c = false) := Lib.hid (decide_eq_false (by omega))
      clear h1 h2
      go_enter Try.func46, Try.ntmps46
      go_wp2
      go_ret
      exact ⟨by rw [hz.out]; rfl, rfl⟩
  · have t1 : decide ((97 : Int) ≤ (c : Int)) = false := by rw [decide_eq_false_iff_not]; omega
    have hz : Hid (isL c = false) := Lib.hid (decide_eq_false (by omega))
    clear h1
    go_enter Try.func46, Try.ntmps46
    go_wp2
    go_ret
    exact ⟨by rw [hz.out]; rfl, rfl⟩
theorem isdigit_any (c : Nat) (w : World) : Calls Try.prog 47 #[.int .u8 (c : Int)] w (SaysB w (isD c)) := by
  by_cases h1 : 48 ≤ c
  · have t1 : decide ((48 : Int) ≤ (c : Int)) = true := by rw [decide_eq_true_eq]; omega
    by_cases h2 : c ≤ 57
    · have t2 : decide ((c : Int) ≤ 57) = true := by rw [decide_eq_true_eq]; omega
      have hz : Hid (isD c = true) := Lib.hid (decide_eq_true ⟨h1, h2⟩)
      clear h1 h2
      go_enter Try.func47, Try.ntmps47
      go_wp2
      go_ret
      exact ⟨by rw [hz.out]; rfl, rfl⟩
    · have t2 : decide ((c : Int) ≤ 57) = false := by rw [decide_eq_false_iff_not]; omega
      have hz : Hid (isD c = false) := Lib.hid (decide_eq_false (by omega))
      clear h1 h2
      go_enter Try.func47, Try.ntmps47
      go_wp2
      go_ret
      exact ⟨by rw [hz.out]; rfl, rfl⟩
  · have t1 : decide ((48 : Int) ≤ (c : Int)) = false := by rw [decide_eq_false_iff_not]; omega
    have hz : Hid (isD c = false) := Lib.hid (decide_eq_false (by omega))
    clear h1
    go_enter Try.func47, Try.ntmps47
    go_wp2
    go_ret
    exact ⟨by rw [hz.out]; rfl, rfl⟩
set_option maxRecDepth 100000 in
set_option maxHeartbeats 4000000 in
theorem isname_any (s : ByteArray) (w : World) (hs : s.size ≤ 140737488355328) : Calls Try.prog 21 #[.string s] w (SaysB w (nameB s)) := by
  by_cases h1 : 1 ≤ s.size
  rotate_left
  · have hz : Hid (nameB s = false) := Lib.hid (by unfold nameB; rw [decide_eq_false (by omega)]; rfl)
    have t1 : decide ((s.size : Int) < 1) = true := by rw [decide_eq_true_eq]; omega
    clear h1
    go_enter Try.func21, Try.ntmps21
    go_wp2
    go_ret
    exact ⟨by rw [hz.out]; rfl, rfl⟩
  have t1 : decide ((s.size : Int) < 1) = false := by rw [decide_eq_false_iff_not]; omega
  by_cases h2 : s.size ≤ 6
  rotate_left
  · have hz : Hid (nameB s = false) := Lib.hid (by unfold nameB; rw [decide_eq_false (by omega)]; rfl)
    have t2 : decide ((6 : Int) < (s.size : Int)) = true := by rw [decide_eq_true_eq]; omega
    clear h1 h2
    go_enter Try.func21, Try.ntmps21
    go_wp2
    go_ret
    exact ⟨by rw [hz.out]; rfl, rfl⟩
  have t2 : decide ((6 : Int) < (s.size : Int)) = false := by rw [decide_eq_false_iff_not]; omega
  have i0 : ∀ W, (Instr.index 9 (.string s) (.int .i64 0)).run Try.prog W = .ok (.int .u8 ((byN s 0 : Nat) : Int)) W := fun W => str_byN s 0 (by omega) W
  have il := fun c W => isletter_any c W
  have idg := fun c W => isdigit_any c W
  cases f0 : isL (byN s 0) with
  | false =>
    have hz : Hid (nameB s = false) := Lib.hid (by unfold nameB; rw [show isL (s.data.toList.getD 0 0).toNat = false from f0, Bool.false_and, Bool.and_false])
    clear h1 h2
    go_enter Try.func21, Try.ntmps21
    go_wp2_with (go_at_call 46; refine (il _ _).mono ?_; rintro e w' ⟨rfl, rfl⟩)
    go_ret
    exact ⟨by rw [hz.out]; rfl, rfl⟩
  | true =>
    have hn : Hid (nameB s = chTo s s.size) := Lib.hid (by unfold nameB; rw [show isL (s.data.toList.getD 0 0).toNat = true from f0, decide_eq_true ⟨h1, h2⟩]; rfl)
    obtain ⟨n, hn0⟩ : ∃ n, s.size = n := ⟨_, rfl⟩
    have hnH := Lib.hid hn0
    go_enter Try.func21, Try.ntmps21
    go_wp2_with (go_at_call 46; refine (il _ _).mono ?_; rintro e w' ⟨rfl, rfl⟩)
    go_loopw [20] (fun i wr => ∃ k : Nat, k ≤ s.size ∧ i = .int .i64 (k : Int) ∧ chTo s k = true ∧ wr = w) (fun i _ => s.size - (intOf i).toNat)
    case atStart => exact ⟨0, by omega, rfl, rfl, rfl⟩
    case round =>
      obtain ⟨k, hk, rfl, hc, rfl⟩ := hrel
      rename World => w
      by_cases hlt : k < s.size
      · have x1 : (k : Int) < (s.size : Int) := by omega
        have ik : ∀ W, (Instr.index 9 (.string s) (.int .i64 (k : Int))).run Try.prog W = .ok (.int .u8 ((byN s k : Nat) : Int)) W := fun W => str_byN s k hlt W
        cases g0 : isL (byN s k) with
        | true =>
          have hc1 : chTo s (k + 1) = true := by rw [chTo_succ, hc]; unfold chB; rw [show isL (s.data.toList.getD k 0).toNat = true from g0]; rfl
          go_wp2_with (go_at_call 46; refine (il _ _).mono ?_; rintro e w' ⟨rfl, rfl⟩)
          go_roundw
          case rel => exact ⟨k + 1, by omega, by go_num, hc1, trivial⟩
          case measure => simp [intOf]; omega
        | false =>
          cases g1 : isD (byN s k) with
          | true =>
            have hc1 : chTo s (k + 1) = true := by rw [chTo_succ, hc]; unfold chB; rw [show isL (s.data.toList.getD k 0).toNat = false from g0, show isD (s.data.toList.getD k 0).toNat = true from g1]; rfl
            go_wp2_with (first | (go_at_call 46; refine (il _ _).mono ?_; rintro e w' ⟨rfl, rfl⟩) | (go_at_call 47; refine (idg _ _).mono ?_; rintro e w' ⟨rfl, rfl⟩))
            go_roundw
            case rel => exact ⟨k + 1, by omega, by go_num, hc1, trivial⟩
            case measure => simp [intOf]; omega
          | false =>
            have hc1 : Hid (chTo s s.size = false) := Lib.hid (all_bad hlt (by unfold chB; rw [show isL (s.data.toList.getD k 0).toNat = false from g0, show isD (s.data.toList.getD k 0).toNat = false from g1]; rfl))
            go_wp2_with (first | (go_at_call 46; refine (il _ _).mono ?_; rintro e w' ⟨rfl, rfl⟩) | (go_at_call 47; refine (idg _ _).mono ?_; rintro e w' ⟨rfl, rfl⟩))
            go_ret
            exact ⟨by rw [hn.out, hc1.out]; rfl, rfl⟩
      · have x1 : ¬ ((k : Int) < (s.size : Int)) := by omega
        obtain rfl : k = s.size := by omega
        go_wp2_with (fail)
        go_ret
        exact ⟨by rw [hn.out, hc]; rfl, rfl⟩
def rootB (blocks r : Int) : Bool := decide (r = 0 ∨ 3 ≤ r ∧ r < blocks)
theorem isroot_any (b r : Int) (w : World) : Calls Try.prog 29 #[.int .i64 b, .int .i64 r] w (SaysB w (rootB b r)) := by
  by_cases h0 : r = 0
  · have hz : Hid (rootB b r = true) := Lib.hid (decide_eq_true (.inl h0))
    have t0 : (r == 0) = true := by rw [beq_iff_eq]; exact h0
    clear h0
    go_enter Try.func29, Try.ntmps29
    go_wp2
    go_ret
    exact ⟨by rw [hz.out]; rfl, rfl⟩
  have t0 : (r == 0) = false := by rw [beq_eq_false_iff_ne]; exact h0
  by_cases h1 : 3 ≤ r
  rotate_left
  · have hz : Hid (rootB b r = false) := Lib.hid (decide_eq_false (by omega))
    have t1 : decide (3 ≤ r) = false := by rw [decide_eq_false_iff_not]; exact h1
    clear h0 h1
    go_enter Try.func29, Try.ntmps29
    go_wp2
    go_ret
    exact ⟨by rw [hz.out]; rfl, rfl⟩
  have t1 : decide (3 ≤ r) = true := decide_eq_true h1
  by_cases h2 : r < b
  · have hz : Hid (rootB b r = true) := Lib.hid (decide_eq_true (.inr ⟨h1, h2⟩))
    have t2 : decide (r < b) = true := decide_eq_true h2
    clear h0 h1 h2
    go_enter Try.func29, Try.ntmps29
    go_wp2
    go_ret
    exact ⟨by rw [hz.out]; rfl, rfl⟩
  · have hz : Hid (rootB b r = false) := Lib.hid (decide_eq_false (by omega))
    have t2 : decide (r < b) = false := by rw [decide_eq_false_iff_not]; exact h2
    clear h0 h1 h2
    go_enter Try.func29, Try.ntmps29
    go_wp2
    go_ret
    exact ⟨by rw [hz.out]; rfl, rfl⟩
end Go.Proofs.Ytfmgoamgcjipkaa
