/- count: the program's calls. -/
import Derived.Test.YtlbjfigdocbffaaCntBase
import Derived.Deep.QuietTactic
import Derived.BigQuiet
import Derived.IntWalk
namespace Go.Proofs.Ytlbjfigdocbffaa
open Go.RowKit
set_option linter.unusedVariables false
set_option linter.unusedSimpArgs false

def cntV (n : Nat) (C : Nat → Nat) (b : Int) : Nat := if 0 ≤ b ∧ b < (n : Int) then C b.toNat else 0
def cntdB (n : Nat) (C : Nat → Nat) (b : Int) : Bool := decide (3 ≤ b ∧ 0 < cntV n C b)
structure Small (n : Nat) (C : Nat → Nat) : Prop where
  n8 : 8 ≤ n
  n200 : n ≤ 200
  c : ∀ i, C i ≤ 255
  z : ∀ i, n ≤ i → C i = 0
theorem cntV_lt {n : Nat} {C : Nat → Nat} (h : Small n C) (b : Int) : cntV n C b ≤ 255 := by unfold cntV; split; exact h.c _; exact Nat.zero_le _
theorem count_any (g n : Nat) (C : Nat → Nat) (b : Int) (w : World) (h : TabAt w g n C) (hS : Small n C) : Calls Try.prog 13 #[.pointer (some ⟨g, 0, none⟩), .int .i64 b] w fun e w' => e = .returned (.int .i64 ((cntV n C b : Nat) : Int)) ∧ w = w' := by
  have c0 := h.c0
  have n2 := hS.n200
  by_cases h0 : b < 0
  · have t0 : decide (b < 0) = true := decide_eq_true h0
    have hz : Hid (cntV n C b = 0) := Lib.hid (if_neg (by omega))
    clear h0
    go_enter Try.func13, Try.ntmps13
    go_wp2
    go_ret
    exact ⟨by rw [hz.out]; rfl, rfl⟩
  · have t0 : decide (b < 0) = false := decide_eq_false h0
    obtain ⟨i, rfl⟩ := Int.eq_ofNat_of_zero_le (show 0 ≤ b by omega)
    by_cases h1 : n ≤ i
    · have t1 : decide ((n : Int) ≤ (i : Int)) = true := by rw [decide_eq_true_eq]; omega
      have t1' : decide (n ≤ i) = true := decide_eq_true h1
      have hz : Hid (cntV n C (i : Int) = 0) := Lib.hid (if_neg (by omega))
      clear h0 h1
      go_enter Try.func13, Try.ntmps13
      go_wp2
      go_ret
      exact ⟨by rw [hz.out]; rfl, rfl⟩
    · have t1 : decide ((n : Int) ≤ (i : Int)) = false := by rw [decide_eq_false_iff_not]; omega
      have t1' : decide (n ≤ i) = false := decide_eq_false h1
      have hz : Hid (cntV n C (i : Int) = C i) := Lib.hid (by rw [cntV, if_pos (by omega)]; rfl)
      have c := h.c i (by omega)
      have h240 : (i : Int) < 240 := by omega
      have hc := hS.c i
      clear h0 h1
      generalize C i = x at *
      go_enter Try.func13, Try.ntmps13
      go_wp2
      go_ret
      exact ⟨by rw [hz.out]; exact congrArg (fun z => Ending.returned (.int .i64 z)) (by first | rfl | (exact IntWalk.wrap64_in _ ⟨by omega, by omega⟩)), rfl⟩
theorem counted_any (g n : Nat) (C : Nat → Nat) (b : Int) (w : World) (h : TabAt w g n C) (hS : Small n C) : Calls Try.prog 46 #[.pointer (some ⟨g, 0, none⟩), .int .i64 b] w fun e w' => e = .returned (.bool (cntdB n C b)) ∧ w = w' := by
  have hc := count_any g n C b w h hS
  by_cases h3 : 3 ≤ b
  · have t3 : decide (3 ≤ b) = true := decide_eq_true h3
    have hz : Hid (cntdB n C b = decide (0 < cntV n C b)) := Lib.hid (by rw [cntdB, Bool.decide_and, t3, Bool.true_and])
    clear h3
    generalize cntV n C b = v at *
    go_enter Try.func46, Try.ntmps46
    go_wp2_with (fail)
    refine hc.mono ?_
    rintro e w' ⟨rfl, rfl⟩
    go_wp2_with (fail)
    go_ret
    exact ⟨by rw [hz.out]; first | rfl | simp, rfl⟩
  · have t3 : decide (3 ≤ b) = false := decide_eq_false h3
    have hz : Hid (cntdB n C b = false) := Lib.hid (by rw [cntdB, Bool.decide_and, t3, Bool.false_and])
    clear h3
    go_enter Try.func46, Try.ntmps46
    go_wp2_with (fail)
    go_ret
    exact ⟨by rw [hz.out]; rfl, rfl⟩
/-- Alloc: the least block that is free. -/
def GetsT (w : World) (g n : Nat) (C : Nat → Nat) (v : Value) (e : Ending) (w' : World) : Prop := e = .returned v ∧ TabTo w g n C w'
set_option maxHeartbeats 1000000 in
theorem alloc_some (g n : Nat) (C : Nat → Nat) (w : World) (h : TabAt w g n C) (hS : Small n C) (k : Nat) (hk : k < n) (h0 : C k = 0) (hl : ∀ j, j < k → C j ≠ 0) :
    Calls Try.prog 21 #[.pointer (some ⟨g, 0, none⟩)] w (GetsT w g n (upd C k 1) (.tuple #[.int .i64 (k : Int), .int .i64 0])) := by
  have c0 := h.c0
  have n2 := hS.n200
  have hT := h.to.set k 1 (by omega)
  have HL := Lib.hid hl
  have H0 := Lib.hid h0
  clear hl h0
  go_enter Try.func21, Try.ntmps21
  go_wp2
  go_loopw [9] (fun t wr => ∃ i : Nat, i ≤ k ∧ t = .int .i64 (i : Int) ∧ wr = w) (fun t _ => k - (intOf t).toNat)
  case atStart => exact ⟨0, by omega, rfl, (by first | rfl | trivial)⟩
  case round =>
    obtain ⟨i, hi, rfl, rfl⟩ := hrel
    have t1 : (i : Int) < (n : Int) := by omega
    have c := h.c i (by omega)
    have hf := h.f (1 + i)
    have h240 : (i : Int) < 240 := by omega
    by_cases hik : i = k
    · subst hik
      rw [H0.out] at c
      go_wp2
      go_ret2
      exact ⟨rfl, hT⟩
    · have hne : (((C i : Nat) : Int) == 0) = false := by rw [beq_eq_false_iff_ne]; have := HL.out i (by omega); omega
      generalize C i = x at *
      go_wp2
      go_roundw
      case rel => exact ⟨i + 1, by omega, by go_num, (by first | rfl | trivial)⟩
      case measure => simp [intOf]; omega
set_option maxHeartbeats 1000000 in
theorem alloc_none (g n : Nat) (C : Nat → Nat) (w : World) (h : TabAt w g n C) (hS : Small n C) (hl : ∀ j, j < n → C j ≠ 0) :
    Calls Try.prog 21 #[.pointer (some ⟨g, 0, none⟩)] w fun e w' => e = .returned (.tuple #[.int .i64 0, .int .i64 160]) ∧ w = w' := by
  have c0 := h.c0
  have n2 := hS.n200
  have HL := Lib.hid hl
  clear hl
  go_enter Try.func21, Try.ntmps21
  go_wp2
  go_loopw [9] (fun t wr => ∃ i : Nat, i ≤ n ∧ t = .int .i64 (i : Int) ∧ wr = w) (fun t _ => n - (intOf t).toNat)
  case atStart => exact ⟨0, by omega, rfl, (by first | rfl | trivial)⟩
  case round =>
    obtain ⟨i, hi, rfl, rfl⟩ := hrel
    by_cases hin : i < n
    · have t1 : (i : Int) < (n : Int) := by omega
      have c := h.c i (by omega)
      have hf := h.f (1 + i)
      have h240 : (i : Int) < 240 := by omega
      have hne : (((C i : Nat) : Int) == 0) = false := by rw [beq_eq_false_iff_ne]; have := HL.out i (by omega); omega
      generalize C i = x at *
      go_wp2
      go_roundw
      case rel => exact ⟨i + 1, by omega, by go_num, (by first | rfl | trivial)⟩
      case measure => simp [intOf]; omega
    · obtain rfl : i = n := by omega
      go_wp2
      go_ret2
      exact ⟨rfl, rfl⟩
theorem cntd_pos {n : Nat} {C : Nat → Nat} {b : Int} (h : cntdB n C b = true) : ∃ i : Nat, b = (i : Int) ∧ 3 ≤ i ∧ i < n ∧ 0 < C i := by
  unfold cntdB at h
  rw [decide_eq_true_eq] at h
  obtain ⟨h1, h2⟩ := h
  obtain ⟨i, rfl⟩ := Int.eq_ofNat_of_zero_le (show 0 ≤ b by omega)
  unfold cntV at h2
  split at h2
  · rename_i h3; exact ⟨i, rfl, by omega, by omega, h2⟩
  · omega
theorem inc_none (g n : Nat) (C : Nat → Nat) (b : Int) (w : World) (h : TabAt w g n C) (hS : Small n C) (hc : cntdB n C b = false) : Calls Try.prog 32 #[.pointer (some ⟨g, 0, none⟩), .int .i64 b] w fun e w' => e = .returned (.int .i64 161) ∧ w = w' := by
  have hx := counted_any g n C b w h hS
  rw [hc] at hx
  clear hc
  go_enter Try.func32, Try.ntmps32
  go_wp2_with (fail)
  refine hx.mono ?_
  rintro e w' ⟨rfl, rfl⟩
  go_wp2_with (fail)
  go_ret
  exact ⟨rfl, rfl⟩
theorem inc_most (g n : Nat) (C : Nat → Nat) (i : Nat) (w : World) (h : TabAt w g n C) (hS : Small n C) (h3 : 3 ≤ i) (hn : i < n) (hc : C i = 255) : Calls Try.prog 32 #[.pointer (some ⟨g, 0, none⟩), .int .i64 (i : Int)] w fun e w' => e = .returned (.int .i64 162) ∧ w = w' := by
  have hx := counted_any g n C (i : Int) w h hS
  rw [show cntdB n C (i : Int) = true from decide_eq_true ⟨by omega, by rw [cntV, if_pos (by omega)]; show 0 < C i; omega⟩] at hx
  have n2 := hS.n200
  have c := h.c i (by omega)
  have h240 : (i : Int) < 240 := by omega
  rw [hc] at c
  clear hc
  go_enter Try.func32, Try.ntmps32
  go_wp2_with (fail)
  refine hx.mono ?_
  rintro e w' ⟨rfl, rfl⟩
  go_wp2_with (fail)
  go_ret
  exact ⟨rfl, rfl⟩
set_option maxHeartbeats 2000000 in
theorem inc_good (g n : Nat) (C : Nat → Nat) (i : Nat) (w : World) (h : TabAt w g n C) (hS : Small n C) (h3 : 3 ≤ i) (hn : i < n) (hp : 0 < C i) (hc : C i < 255) : Calls Try.prog 32 #[.pointer (some ⟨g, 0, none⟩), .int .i64 (i : Int)] w (GetsT w g n (upd C i (C i + 1)) (.int .i64 0)) := by
  have hx := counted_any g n C (i : Int) w h hS
  rw [show cntdB n C (i : Int) = true from decide_eq_true ⟨by omega, by rw [cntV, if_pos (by omega)]; exact hp⟩] at hx
  have n2 := hS.n200
  have c := h.c i (by omega)
  have f := h.f (1 + i)
  have h240 : (i : Int) < 240 := by omega
  have h0 : (0 : Int) ≤ (i : Int) := by omega
  have hne : (((C i : Nat) : Int) == 255) = false := by rw [beq_eq_false_iff_ne]; omega
  have hT := h.to.drew.set i (C i + 1) (by omega)
  have hw : IntKind.u8.wrap (((C i : Nat) : Int) + 1) = ((C i + 1 : Nat) : Int) := by simp [IntKind.wrap, IntKind.bits, IntKind.signed]; omega
  generalize C i = x at *
  clear hp hc
  go_enter Try.func32, Try.ntmps32
  go_wp2_with (fail)
  refine hx.mono ?_
  rintro e w' ⟨rfl, rfl⟩
  go_wp2_with (fail)
  go_region
  all_goals
    go_wp2_with (fail)
    go_ret
    exact ⟨rfl, by first | exact hT | (rw [← hw] at hT; exact hT)⟩
theorem dec_none (g n : Nat) (C : Nat → Nat) (b : Int) (w : World) (h : TabAt w g n C) (hS : Small n C) (hc : cntdB n C b = false) : Calls Try.prog 50 #[.pointer (some ⟨g, 0, none⟩), .int .i64 b] w fun e w' => e = .returned (.tuple #[.int .i64 0, .int .i64 161]) ∧ w = w' := by
  have hx := counted_any g n C b w h hS
  rw [hc] at hx
  clear hc
  go_enter Try.func50, Try.ntmps50
  go_wp2_with (fail)
  refine hx.mono ?_
  rintro e w' ⟨rfl, rfl⟩
  go_wp2_with (fail)
  go_ret2
  exact ⟨rfl, rfl⟩
theorem small_upd {n : Nat} {C : Nat → Nat} (h : Small n C) {i v : Nat} (hi : i < n) (hv : v ≤ 255) : Small n (upd C i v) :=
  ⟨h.n8, h.n200, fun j => by unfold upd; split; exact hv; exact h.c j, fun j hj => by unfold upd; rw [if_neg (by omega)]; exact h.z j hj⟩
set_option maxHeartbeats 2000000 in
theorem dec_good (g n : Nat) (C : Nat → Nat) (i : Nat) (w : World) (h : TabAt w g n C) (hS : Small n C) (h3 : 3 ≤ i) (hn : i < n) (hp : 0 < C i) : Calls Try.prog 50 #[.pointer (some ⟨g, 0, none⟩), .int .i64 (i : Int)] w (GetsT w g n (upd C i (C i - 1)) (.tuple #[.int .i64 ((C i - 1 : Nat) : Int), .int .i64 0])) := by
  have hx := counted_any g n C (i : Int) w h hS
  rw [show cntdB n C (i : Int) = true from decide_eq_true ⟨by omega, by rw [cntV, if_pos (by omega)]; exact hp⟩] at hx
  have n2 := hS.n200
  have c255 := hS.c i
  have c := h.c i (by omega)
  have f := h.f (1 + i)
  have h240 : (i : Int) < 240 := by omega
  have h0 : (0 : Int) ≤ (i : Int) := by omega
  have hT := h.to.drew.set i (C i - 1) (by omega)
  have hS' := small_upd hS hn (v := C i - 1) (by omega)
  have hw : IntKind.u8.wrap (((C i : Nat) : Int) - 1) = ((C i - 1 : Nat) : Int) := by simp [IntKind.wrap, IntKind.bits, IntKind.signed]; omega
  have hc2 := fun w' (h' : TabAt w' g n (upd C i (C i - 1))) => count_any g n _ (i : Int) w' h' hS'
  rw [show cntV n (upd C i (C i - 1)) (i : Int) = C i - 1 from by rw [cntV, if_pos (by omega)]; show upd C i (C i - 1) i = _; rw [upd, if_pos rfl]] at hc2
  obtain ⟨D, hD⟩ : ∃ D, D = upd C i (C i - 1) := ⟨_, rfl⟩
  rw [← hD] at hc2 hT
  rw [← hD]
  clear hD hS'
  obtain ⟨y, hy⟩ : ∃ y, C i - 1 = y := ⟨_, rfl⟩
  rw [hy] at hw hT hc2
  rw [hy]
  generalize C i = x at *
  clear hp hy
  go_enter Try.func50, Try.ntmps50
  go_wp2_with (fail)
  refine hx.mono ?_
  rintro e w' ⟨rfl, rfl⟩
  go_wp2_with (fail)
  go_region
  all_goals
    go_wp2_with (fail)
    refine (hc2 _ (by first | exact hT.t | (rw [← hw] at hT; exact hT.t))).mono ?_
    rintro e w' ⟨rfl, rfl⟩
    go_wp2_with (fail)
    go_ret2
    exact ⟨rfl, by first | exact hT | (rw [← hw] at hT; exact hT)⟩
/-- How many are used. -/
def usedTo (C : Nat → Nat) (k : Nat) : Nat := ((List.range k).filter fun i => decide (0 < C i)).length
theorem used_succ (C : Nat → Nat) (k : Nat) : usedTo C (k + 1) = usedTo C k + if 0 < C k then 1 else 0 := by
  unfold usedTo; rw [List.range_succ, List.filter_append]
  by_cases h : 0 < C k <;> simp [h]
theorem used_le (C : Nat → Nat) (k : Nat) : usedTo C k ≤ k := by
  have := List.length_filter_le (fun i => decide (0 < C i)) (List.range k); unfold usedTo; simpa using this
def arr240 (C : Nat → Nat) : List Value := (List.range 240).map fun i => .int .u8 ((C i : Nat) : Int)
theorem arr_range {w : World} {g n : Nat} {C : Nat → Nat} (h : TabAt w g n C) : w.rangeAt g 1 (arr240 C) := by
  intro j v hv
  have hj : j < 240 := by
    rcases Nat.lt_or_ge j 240 with h | h
    · exact h
    · rw [arr240, List.getElem?_eq_none (by simpa using h)] at hv; cases hv
  rw [h.c j hj, ← hv]
  simp [arr240, hj]
theorem arr_info : (Try.prog.info? 70).map (·.size) = some 240 := by kernel_rfl
theorem arr_idx (C : Nat → Nat) (k : Nat) (hk : k < 240) (W : World) : (Instr.index 70 (.agg (arr240 C).toArray) (.int .i64 (k : Int))).run Try.prog W = .ok (.int .u8 ((C k : Nat) : Int)) W := by
  have hi : Try.prog.info? 5 = Try.prog.info? 5 := rfl
  have hk' : (k : Int) < 240 := by omega
  have e : (arr240 C)[k]? = some (.int .u8 ((C k : Nat) : Int)) := by simp [arr240, hk]
  have hs : (sizeOf 5).run Try.prog W = .ok 1 W := by kernel_rfl
  have ha : (isAgg 5).run Try.prog W = .ok false W := by kernel_rfl
  simp [Instr.index, run_underlying Try.underlying70, asIntOf, part, hs, ha, hk', e]
  intro hx; omega
set_option maxRecDepth 100000 in
set_option maxHeartbeats 1000000 in
theorem used_any (g n : Nat) (C : Nat → Nat) (w : World) (h : TabAt w g n C) (hS : Small n C) : Calls Try.prog 27 #[.pointer (some ⟨g, 0, none⟩)] w fun e w' => e = .returned (.int .i64 ((usedTo C 240 : Nat) : Int)) ∧ w = w' := by
  have hidx := Lib.hid (arr_idx C)
  have hr := Lib.hid (arr_range h)
  have hi : Hid ((Try.prog.info? 70).map (·.size) = some (arr240 C).length) := Lib.hid (by rw [arr_info]; simp [arr240])
  go_enter Try.func27, Try.ntmps27
  go_wp2_with (with_reducible refine wpList_load_mid rfl _ _ rfl g 1 rfl (arr240 C) _ hr.out Try.underlying70 rfl hi.out ?_)
  generalize (arr240 C).toArray = arr at *
  go_loopw [3, 10] (fun u t wr => ∃ k : Nat, k ≤ 240 ∧ t = .int .i64 (k : Int) ∧ u = .int .i64 ((usedTo C k : Nat) : Int) ∧ wr = w) (fun _ t _ => 240 - (intOf t).toNat)
  case atStart => exact ⟨0, by omega, rfl, rfl, rfl⟩
  case round =>
    obtain ⟨k, hk, rfl, rfl, rfl⟩ := hrel
    have hu := used_le C k
    by_cases hlt : k < 240
    · have t1 : (k : Int) < 240 := by omega
      have hix := fun W => hidx.out k hlt W
      have HS := Lib.hid (used_succ C k)
      by_cases hp : 0 < C k
      · have t2 : decide ((0 : Int) < ((C k : Nat) : Int)) = true := by rw [decide_eq_true_eq]; omega
        have HE : Hid (usedTo C (k + 1) = usedTo C k + 1) := Lib.hid (by rw [HS.out, if_pos hp])
        clear HS
        generalize usedTo C k = u at *
        go_wp2_with (fail)
        go_roundw
        case rel => exact ⟨k + 1, by omega, by go_num, by rw [HE.out]; go_num, (by first | rfl | trivial)⟩
        case measure => simp [intOf]; omega
      · have t2 : decide ((0 : Int) < ((C k : Nat) : Int)) = false := by rw [decide_eq_false_iff_not]; omega
        have t2' : C k = 0 := by omega
        have HE : Hid (usedTo C (k + 1) = usedTo C k) := Lib.hid (by rw [HS.out, if_neg hp]; rfl)
        clear HS hp
        rw [t2'] at hix
        clear t2 t2'
        generalize usedTo C k = u at *
        go_wp2_with (fail)
        go_roundw
        case rel => exact ⟨k + 1, by omega, by go_num, by rw [HE.out], (by first | rfl | trivial)⟩
        case measure => simp [intOf]; omega
    · obtain rfl : k = 240 := by omega
      go_wp2
      go_ret
      exact ⟨rfl, rfl⟩
theorem free_any (g n : Nat) (C : Nat → Nat) (w : World) (h : TabAt w g n C) (hS : Small n C) : Calls Try.prog 15 #[.pointer (some ⟨g, 0, none⟩)] w fun e w' => e = .returned (.int .i64 ((n : Int) - ((usedTo C 240 : Nat) : Int))) ∧ ∃ k, w' = w.drewN k := by
  have c0 := h.c0
  have hu := used_le C 240
  have n2 := hS.n200
  have hx := fun w h => used_any g n C w h hS
  have hw : IntKind.i64.wrap ((n : Int) - ((usedTo C 240 : Nat) : Int)) = (n : Int) - ((usedTo C 240 : Nat) : Int) := IntWalk.i64_in _ ⟨by omega, by omega⟩
  generalize usedTo C 240 = u at *
  have hT := fun k => h.drewN k
  go_enter Try.func15, Try.ntmps15
  go_wp2_with (fail)
  go_quiet ((go_at_call 27; exact Calls.quiet_of_same ((hx _ (hT _)).mono fun _ _ h => ⟨h.1, h.2.symm⟩)))
  go_wp2
  go_ret
  exact ⟨rfl, _, rfl⟩
end Go.Proofs.Ytlbjfigdocbffaa
