/- command: the document's own has, part, Right. -/
import Derived.Test.YtjbekphjhmlloaaDoorCmdWalk2
namespace Go.Proofs.YtjbekphjhmlloaaDoor
open Go.RowKit
set_option linter.unusedVariables false
set_option linter.unusedSimpArgs false

/-- The letters of an op's fields. -/
def letS : Nat → ByteArray
  | 1 => ⟨#[110, 99]⟩ | 4 => ⟨#[110, 99]⟩ | 2 => ⟨#[110]⟩ | 3 => ⟨#[110, 111]⟩ | 5 => ⟨#[110, 97, 100]⟩ | 6 => ⟨#[110, 97, 99]⟩ | 7 => ⟨#[110, 97, 99]⟩ | _ => ⟨#[]⟩
theorem let_none (i : Nat) (h : ¬ (1 ≤ i ∧ i ≤ 7)) : letS i = ⟨#[]⟩ := by unfold letS; split <;> first | rfl | omega
set_option maxRecDepth 100000 in
set_option maxHeartbeats 4000000 in
theorem has_any (op : Int) (w : World) : Calls Tryd.prog 23 #[.int .i64 op] w fun e w' => e = .returned (.tuple #[.string (letS op.toNat), .bool (isOpB op)]) ∧ w = w' := by
  by_cases h : 1 ≤ op ∧ op ≤ 9
  · rcases (by omega : op = 1 ∨ op = 2 ∨ op = 3 ∨ op = 4 ∨ op = 5 ∨ op = 6 ∨ op = 7 ∨ op = 8 ∨ op = 9) with rfl | rfl | rfl | rfl | rfl | rfl | rfl | rfl | rfl
    all_goals
      go_enter Tryd.func23, Tryd.ntmps23
      go_wp2
      go_ret2
      exact ⟨rfl, rfl⟩
  · have hz : Hid (letS op.toNat = ⟨#[]⟩ ∧ isOpB op = false) := Lib.hid ⟨let_none _ (by omega), decide_eq_false h⟩
    have t1 : (op == 1) = false := by rw [beq_eq_false_iff_ne]; omega
    have t2 : (op == 2) = false := by rw [beq_eq_false_iff_ne]; omega
    have t3 : (op == 3) = false := by rw [beq_eq_false_iff_ne]; omega
    have t4 : (op == 4) = false := by rw [beq_eq_false_iff_ne]; omega
    have t5 : (op == 5) = false := by rw [beq_eq_false_iff_ne]; omega
    have t6 : (op == 6) = false := by rw [beq_eq_false_iff_ne]; omega
    have t7 : (op == 7) = false := by rw [beq_eq_false_iff_ne]; omega
    have t8 : (op == 8) = false := by rw [beq_eq_false_iff_ne]; omega
    have t9 : (op == 9) = false := by rw [beq_eq_false_iff_ne]; omega
    clear h
    go_enter Tryd.func23, Tryd.ntmps23
    go_wp2
    go_ret2
    exact ⟨by rw [hz.out.1, hz.out.2]; rfl, rfl⟩
def hasB (s : ByteArray) (c : Int) : Bool := s.data.toList.any fun b => ((b.toNat : Nat) : Int) == c
set_option maxRecDepth 100000 in
set_option maxHeartbeats 4000000 in
theorem part_any (s : ByteArray) (c : Int) (w : World) (hs : s.size ≤ 100) : Calls Tryd.prog 36 #[.string s, .int .u8 c] w fun e w' => e = .returned (.bool (hasB s c)) ∧ w = w' := by
  go_enter Tryd.func36, Tryd.ntmps36
  go_wp2
  go_loop [5] (fun i => ∃ k : Nat, k ≤ s.size ∧ i = .int .i64 (k : Int) ∧ Hid ((s.data.toList.take k).any (fun b => ((b.toNat : Nat) : Int) == c) = false)) (fun i => s.size - (intOf i).toNat)
  case atStart => exact ⟨0, by omega, rfl, Lib.hid rfl⟩
  case round =>
    obtain ⟨k, hk, rfl, hal⟩ := hrel
    by_cases hlt : k < s.size
    · have b1 : (k : Int) < (s.size : Int) := by omega
      have hl : k < s.data.toList.length := by simpa using hlt
      have hx : (s.data.toList.take (k + 1)).any (fun b => ((b.toNat : Nat) : Int) == c) = (((s[k].toNat : Nat) : Int) == c) := by
        rw [List.take_succ_eq_append_getElem hl, List.any_append, hal.out, Bool.false_or]
        simp; rfl
      cases hb : (((s[k].toNat : Nat) : Int) == c) with
      | false =>
        rw [hb] at hx
        have hx2 := Lib.hid hx
        clear hx hal
        go_wp2
        go_round
        case rel => exact ⟨k + 1, by omega, by go_num, hx2⟩
        case measure => simp [intOf]; omega
      | true =>
        have hz : Hid (hasB s c = true) := Lib.hid (by
          unfold hasB
          rw [List.any_eq_true]
          exact ⟨s[k], List.getElem_mem hl, hb⟩)
        clear hx hal
        go_wp2
        go_ret
        exact ⟨by rw [hz.out]; rfl, (by first | rfl | trivial)⟩
    · have e : k = s.size := by omega
      subst e
      have hz : Hid (hasB s c = false) := Lib.hid (by
        have := hal.out; rw [List.take_of_length_le (by simp)] at this; exact this)
      clear hal
      go_wp2
      go_ret
      exact ⟨by rw [hz.out]; rfl, (by first | rfl | trivial)⟩
theorem toL_nil (s : ByteArray) : (s.toList == []) = decide (s.size = 0) := by
  rw [Lib.toList_data, Bool.eq_iff_iff, beq_iff_eq, decide_eq_true_eq, Rm.size_list]
  exact ⟨fun h => by rw [h]; rfl, fun h => List.eq_nil_of_length_eq_zero h⟩
theorem row_let (op : Int) (h : 1 ≤ op ∧ op ≤ 9) : (rowOf op.toNat = [1, 4, 0] ∧ letS op.toNat = ⟨#[110, 99]⟩) ∨ (rowOf op.toNat = [1, 0, 0] ∧ letS op.toNat = ⟨#[110]⟩) ∨ (rowOf op.toNat = [1, 2, 0] ∧ letS op.toNat = ⟨#[110, 111]⟩) ∨ (rowOf op.toNat = [1, 3, 5] ∧ letS op.toNat = ⟨#[110, 97, 100]⟩) ∨ (rowOf op.toNat = [1, 3, 4] ∧ letS op.toNat = ⟨#[110, 97, 99]⟩) ∨ (rowOf op.toNat = [0, 0, 0] ∧ letS op.toNat = ⟨#[]⟩) := by
  rcases (by omega : op = 1 ∨ op = 2 ∨ op = 3 ∨ op = 4 ∨ op = 5 ∨ op = 6 ∨ op = 7 ∨ op = 8 ∨ op = 9) with rfl | rfl | rfl | rfl | rfl | rfl | rfl | rfl | rfl <;> decide
set_option maxRecDepth 100000 in
set_option maxHeartbeats 4000000 in
theorem rright_any (x : Cmd) (w : World) : Calls Tryd.prog 16 #[x.v] w fun e w' => e = .returned (.bool (rightB x)) ∧ Below w.heap.size w w' := by
  have hh := fun w => has_any x.op w
  cases f0 : isOpB x.op with
  | false =>
    rw [f0] at hh
    have hz : Hid (rightB x = false) := Lib.hid (by simp [rightB, limB, f0])
    unfold Cmd.v
    go_enter Tryd.func16, Tryd.ntmps16
    go_wp2_with (fail)
    refine (hh _).mono ?_
    rintro e w' ⟨rfl, rfl⟩
    go_wp2_with (fail)
    go_ret
    exact ⟨by rw [hz.out]; rfl, (Below.refl _ _).alloc (Nat.le_refl _) _⟩
  | true =>
    rw [f0] at hh
    by_cases f1 : x.n.size ≤ 20
    rotate_left
    · have t1 : decide ((20 : Int) < (x.n.size : Int)) = true := by rw [decide_eq_true_eq]; omega
      have hz : Hid (rightB x = false) := Lib.hid (by rw [rightB, show limB x = false from by rw [Bool.eq_false_iff]; intro hl; obtain ⟨_, _, _, _, _, _⟩ := (limB_iff x).1 hl; omega]; rfl)
      clear f1
      unfold Cmd.v
      go_enter Tryd.func16, Tryd.ntmps16
      go_wp2_with (fail)
      refine (hh _).mono ?_
      rintro e w' ⟨rfl, rfl⟩
      go_wp2_with (fail)
      go_ret
      exact ⟨by rw [hz.out]; rfl, (Below.refl _ _).alloc (Nat.le_refl _) _⟩
    have t1 : decide ((20 : Int) < (x.n.size : Int)) = false := by rw [decide_eq_false_iff_not]; omega
    by_cases f2 : x.o.size ≤ 20
    rotate_left
    · have t2 : decide ((20 : Int) < (x.o.size : Int)) = true := by rw [decide_eq_true_eq]; omega
      have hz : Hid (rightB x = false) := Lib.hid (by rw [rightB, show limB x = false from by rw [Bool.eq_false_iff]; intro hl; obtain ⟨_, _, _, _, _, _⟩ := (limB_iff x).1 hl; omega]; rfl)
      clear f1
      clear f2
      unfold Cmd.v
      go_enter Tryd.func16, Tryd.ntmps16
      go_wp2_with (fail)
      refine (hh _).mono ?_
      rintro e w' ⟨rfl, rfl⟩
      go_wp2_with (fail)
      go_ret
      exact ⟨by rw [hz.out]; rfl, (Below.refl _ _).alloc (Nat.le_refl _) _⟩
    have t2 : decide ((20 : Int) < (x.o.size : Int)) = false := by rw [decide_eq_false_iff_not]; omega
    by_cases f3 : 0 ≤ x.a
    rotate_left
    · have t3 : decide (x.a < 0) = true := by rw [decide_eq_true_eq]; omega
      have hz : Hid (rightB x = false) := Lib.hid (by rw [rightB, show limB x = false from by rw [Bool.eq_false_iff]; intro hl; obtain ⟨_, _, _, _, _, _⟩ := (limB_iff x).1 hl; omega]; rfl)
      clear f1
      clear f2
      clear f3
      unfold Cmd.v
      go_enter Tryd.func16, Tryd.ntmps16
      go_wp2_with (fail)
      refine (hh _).mono ?_
      rintro e w' ⟨rfl, rfl⟩
      go_wp2_with (fail)
      go_ret
      exact ⟨by rw [hz.out]; rfl, (Below.refl _ _).alloc (Nat.le_refl _) _⟩
    have t3 : decide (x.a < 0) = false := by rw [decide_eq_false_iff_not]; omega
    by_cases f4 : x.a ≤ 1099511627776
    rotate_left
    · have t4 : decide (1099511627776 < x.a) = true := by rw [decide_eq_true_eq]; omega
      have hz : Hid (rightB x = false) := Lib.hid (by rw [rightB, show limB x = false from by rw [Bool.eq_false_iff]; intro hl; obtain ⟨_, _, _, _, _, _⟩ := (limB_iff x).1 hl; omega]; rfl)
      clear f1
      clear f2
      clear f3
      clear f4
      unfold Cmd.v
      go_enter Tryd.func16, Tryd.ntmps16
      go_wp2_with (fail)
      refine (hh _).mono ?_
      rintro e w' ⟨rfl, rfl⟩
      go_wp2_with (fail)
      go_ret
      exact ⟨by rw [hz.out]; rfl, (Below.refl _ _).alloc (Nat.le_refl _) _⟩
    have t4 : decide (1099511627776 < x.a) = false := by rw [decide_eq_false_iff_not]; omega
    by_cases f5 : 0 ≤ x.c
    rotate_left
    · have t5 : decide (x.c < 0) = true := by rw [decide_eq_true_eq]; omega
      have hz : Hid (rightB x = false) := Lib.hid (by rw [rightB, show limB x = false from by rw [Bool.eq_false_iff]; intro hl; obtain ⟨_, _, _, _, _, _⟩ := (limB_iff x).1 hl; omega]; rfl)
      clear f1
      clear f2
      clear f3
      clear f4
      clear f5
      unfold Cmd.v
      go_enter Tryd.func16, Tryd.ntmps16
      go_wp2_with (fail)
      refine (hh _).mono ?_
      rintro e w' ⟨rfl, rfl⟩
      go_wp2_with (fail)
      go_ret
      exact ⟨by rw [hz.out]; rfl, (Below.refl _ _).alloc (Nat.le_refl _) _⟩
    have t5 : decide (x.c < 0) = false := by rw [decide_eq_false_iff_not]; omega
    by_cases f6 : x.c ≤ 1099511627776
    rotate_left
    · have t6 : decide (1099511627776 < x.c) = true := by rw [decide_eq_true_eq]; omega
      have hz : Hid (rightB x = false) := Lib.hid (by rw [rightB, show limB x = false from by rw [Bool.eq_false_iff]; intro hl; obtain ⟨_, _, _, _, _, _⟩ := (limB_iff x).1 hl; omega]; rfl)
      clear f1
      clear f2
      clear f3
      clear f4
      clear f5
      clear f6
      unfold Cmd.v
      go_enter Tryd.func16, Tryd.ntmps16
      go_wp2_with (fail)
      refine (hh _).mono ?_
      rintro e w' ⟨rfl, rfl⟩
      go_wp2_with (fail)
      go_ret
      exact ⟨by rw [hz.out]; rfl, (Below.refl _ _).alloc (Nat.le_refl _) _⟩
    have t6 : decide (1099511627776 < x.c) = false := by rw [decide_eq_false_iff_not]; omega
    by_cases f7 : x.d.size ≤ 600
    rotate_left
    · have t7 : decide ((600 : Int) < (x.d.size : Int)) = true := by rw [decide_eq_true_eq]; omega
      have hz : Hid (rightB x = false) := Lib.hid (by rw [rightB, show limB x = false from by rw [Bool.eq_false_iff]; intro hl; obtain ⟨_, _, _, _, _, _⟩ := (limB_iff x).1 hl; omega]; rfl)
      clear f1
      clear f2
      clear f3
      clear f4
      clear f5
      clear f6
      clear f7
      unfold Cmd.v
      go_enter Tryd.func16, Tryd.ntmps16
      go_wp2_with (fail)
      refine (hh _).mono ?_
      rintro e w' ⟨rfl, rfl⟩
      go_wp2_with (fail)
      go_ret
      exact ⟨by rw [hz.out]; rfl, (Below.refl _ _).alloc (Nat.le_refl _) _⟩
    have t7 : decide ((600 : Int) < (x.d.size : Int)) = false := by rw [decide_eq_false_iff_not]; omega
    have hl : limB x = true := (limB_iff x).2 ⟨of_decide_eq_true f0, f1, f2, ⟨f3, f4⟩, ⟨f5, f6⟩, f7⟩
    clear f1
    clear f2
    clear f3
    clear f4
    clear f5
    clear f6
    clear f7
    have hr : rightB x = useB x := by rw [rightB, hl]; rfl
    have hrow : (x.row = [1, 4, 0] ∧ letS x.op.toNat = ⟨#[110, 99]⟩) ∨ (x.row = [1, 0, 0] ∧ letS x.op.toNat = ⟨#[110]⟩) ∨ (x.row = [1, 2, 0] ∧ letS x.op.toNat = ⟨#[110, 111]⟩) ∨ (x.row = [1, 3, 5] ∧ letS x.op.toNat = ⟨#[110, 97, 100]⟩) ∨ (x.row = [1, 3, 4] ∧ letS x.op.toNat = ⟨#[110, 97, 99]⟩) ∨ (x.row = [0, 0, 0] ∧ letS x.op.toNat = ⟨#[]⟩) := row_let x.op (of_decide_eq_true f0)
    clear hl
    rcases hrow with ⟨hrow, hlet⟩ | ⟨hrow, hlet⟩ | ⟨hrow, hlet⟩ | ⟨hrow, hlet⟩ | ⟨hrow, hlet⟩ | ⟨hrow, hlet⟩
    · rw [hlet] at hh
      unfold useB at hr
      rw [hrow] at hr
      clear hrow hlet
      have p1 : hasB ⟨#[110, 99]⟩ 110 = true := by decide
      have p2 : hasB ⟨#[110, 99]⟩ 111 = false := by decide
      have p3 : hasB ⟨#[110, 99]⟩ 97 = false := by decide
      have p4 : hasB ⟨#[110, 99]⟩ 99 = true := by decide
      have p5 : hasB ⟨#[110, 99]⟩ 100 = false := by decide
      cases e2 : decide (x.o.size = 0) with
      | false =>
        have hz : Hid (rightB x = false) := Lib.hid (by rw [hr]; simp [okS, okI, of_decide_eq_false e2])
        have g2 : (x.o.toList == []) = false := by rw [toL_nil]; exact e2
        clear hr e2
        unfold Cmd.v
        go_enter Tryd.func16, Tryd.ntmps16
        go_wp2_with (fail)
        refine (hh _).mono ?_
        rintro e w' ⟨rfl, rfl⟩
        go_wp2_with (go_at_call 36; refine (part_any _ _ _ (by decide)).mono ?_; rintro e w' ⟨rfl, rfl⟩)
        go_ret
        exact ⟨by rw [hz.out]; rfl, (Below.refl _ _).alloc (Nat.le_refl _) _⟩
      | true =>
        have g2 : (x.o.toList == []) = true := by rw [toL_nil]; exact e2
        cases e3 : decide (x.a = 0) with
        | false =>
          have hz : Hid (rightB x = false) := Lib.hid (by rw [hr]; simp [okS, okI, of_decide_eq_true e2, of_decide_eq_false e3])
          have g3 : (x.a == 0) = false := by rw [beq_eq_false_iff_ne]; exact of_decide_eq_false e3
          clear hr e2 e3
          unfold Cmd.v
          go_enter Tryd.func16, Tryd.ntmps16
          go_wp2_with (fail)
          refine (hh _).mono ?_
          rintro e w' ⟨rfl, rfl⟩
          go_wp2_with (go_at_call 36; refine (part_any _ _ _ (by decide)).mono ?_; rintro e w' ⟨rfl, rfl⟩)
          go_ret
          exact ⟨by rw [hz.out]; rfl, (Below.refl _ _).alloc (Nat.le_refl _) _⟩
        | true =>
          have g3 : (x.a == 0) = true := by rw [beq_iff_eq]; exact of_decide_eq_true e3
          cases e5 : decide (x.d.size = 0) with
          | false =>
            have hz : Hid (rightB x = false) := Lib.hid (by rw [hr]; simp [okS, okI, of_decide_eq_true e2, of_decide_eq_true e3, of_decide_eq_false e5])
            have g5 : (x.d.toList == []) = false := by rw [toL_nil]; exact e5
            clear hr e2 e3 e5
            unfold Cmd.v
            go_enter Tryd.func16, Tryd.ntmps16
            go_wp2_with (fail)
            refine (hh _).mono ?_
            rintro e w' ⟨rfl, rfl⟩
            go_wp2_with (go_at_call 36; refine (part_any _ _ _ (by decide)).mono ?_; rintro e w' ⟨rfl, rfl⟩)
            go_ret
            exact ⟨by rw [hz.out]; rfl, (Below.refl _ _).alloc (Nat.le_refl _) _⟩
          | true =>
            have g5 : (x.d.toList == []) = true := by rw [toL_nil]; exact e5
            have hz : Hid (rightB x = true) := Lib.hid (by rw [hr]; simp [okS, okI, of_decide_eq_true e2, of_decide_eq_true e3, of_decide_eq_true e5])
            clear hr e2 e3 e5
            unfold Cmd.v
            go_enter Tryd.func16, Tryd.ntmps16
            go_wp2_with (fail)
            refine (hh _).mono ?_
            rintro e w' ⟨rfl, rfl⟩
            go_wp2_with (go_at_call 36; refine (part_any _ _ _ (by decide)).mono ?_; rintro e w' ⟨rfl, rfl⟩)
            go_ret
            exact ⟨by rw [hz.out]; rfl, (Below.refl _ _).alloc (Nat.le_refl _) _⟩
    · rw [hlet] at hh
      unfold useB at hr
      rw [hrow] at hr
      clear hrow hlet
      have p1 : hasB ⟨#[110]⟩ 110 = true := by decide
      have p2 : hasB ⟨#[110]⟩ 111 = false := by decide
      have p3 : hasB ⟨#[110]⟩ 97 = false := by decide
      have p4 : hasB ⟨#[110]⟩ 99 = false := by decide
      have p5 : hasB ⟨#[110]⟩ 100 = false := by decide
      cases e2 : decide (x.o.size = 0) with
      | false =>
        have hz : Hid (rightB x = false) := Lib.hid (by rw [hr]; simp [okS, okI, of_decide_eq_false e2])
        have g2 : (x.o.toList == []) = false := by rw [toL_nil]; exact e2
        clear hr e2
        unfold Cmd.v
        go_enter Tryd.func16, Tryd.ntmps16
        go_wp2_with (fail)
        refine (hh _).mono ?_
        rintro e w' ⟨rfl, rfl⟩
        go_wp2_with (go_at_call 36; refine (part_any _ _ _ (by decide)).mono ?_; rintro e w' ⟨rfl, rfl⟩)
        go_ret
        exact ⟨by rw [hz.out]; rfl, (Below.refl _ _).alloc (Nat.le_refl _) _⟩
      | true =>
        have g2 : (x.o.toList == []) = true := by rw [toL_nil]; exact e2
        cases e3 : decide (x.a = 0) with
        | false =>
          have hz : Hid (rightB x = false) := Lib.hid (by rw [hr]; simp [okS, okI, of_decide_eq_true e2, of_decide_eq_false e3])
          have g3 : (x.a == 0) = false := by rw [beq_eq_false_iff_ne]; exact of_decide_eq_false e3
          clear hr e2 e3
          unfold Cmd.v
          go_enter Tryd.func16, Tryd.ntmps16
          go_wp2_with (fail)
          refine (hh _).mono ?_
          rintro e w' ⟨rfl, rfl⟩
          go_wp2_with (go_at_call 36; refine (part_any _ _ _ (by decide)).mono ?_; rintro e w' ⟨rfl, rfl⟩)
          go_ret
          exact ⟨by rw [hz.out]; rfl, (Below.refl _ _).alloc (Nat.le_refl _) _⟩
        | true =>
          have g3 : (x.a == 0) = true := by rw [beq_iff_eq]; exact of_decide_eq_true e3
          cases e4 : decide (x.c = 0) with
          | false =>
            have hz : Hid (rightB x = false) := Lib.hid (by rw [hr]; simp [okS, okI, of_decide_eq_true e2, of_decide_eq_true e3, of_decide_eq_false e4])
            have g4 : (x.c == 0) = false := by rw [beq_eq_false_iff_ne]; exact of_decide_eq_false e4
            clear hr e2 e3 e4
            unfold Cmd.v
            go_enter Tryd.func16, Tryd.ntmps16
            go_wp2_with (fail)
            refine (hh _).mono ?_
            rintro e w' ⟨rfl, rfl⟩
            go_wp2_with (go_at_call 36; refine (part_any _ _ _ (by decide)).mono ?_; rintro e w' ⟨rfl, rfl⟩)
            go_ret
            exact ⟨by rw [hz.out]; rfl, (Below.refl _ _).alloc (Nat.le_refl _) _⟩
          | true =>
            have g4 : (x.c == 0) = true := by rw [beq_iff_eq]; exact of_decide_eq_true e4
            cases e5 : decide (x.d.size = 0) with
            | false =>
              have hz : Hid (rightB x = false) := Lib.hid (by rw [hr]; simp [okS, okI, of_decide_eq_true e2, of_decide_eq_true e3, of_decide_eq_true e4, of_decide_eq_false e5])
              have g5 : (x.d.toList == []) = false := by rw [toL_nil]; exact e5
              clear hr e2 e3 e4 e5
              unfold Cmd.v
              go_enter Tryd.func16, Tryd.ntmps16
              go_wp2_with (fail)
              refine (hh _).mono ?_
              rintro e w' ⟨rfl, rfl⟩
              go_wp2_with (go_at_call 36; refine (part_any _ _ _ (by decide)).mono ?_; rintro e w' ⟨rfl, rfl⟩)
              go_ret
              exact ⟨by rw [hz.out]; rfl, (Below.refl _ _).alloc (Nat.le_refl _) _⟩
            | true =>
              have g5 : (x.d.toList == []) = true := by rw [toL_nil]; exact e5
              have hz : Hid (rightB x = true) := Lib.hid (by rw [hr]; simp [okS, okI, of_decide_eq_true e2, of_decide_eq_true e3, of_decide_eq_true e4, of_decide_eq_true e5])
              clear hr e2 e3 e4 e5
              unfold Cmd.v
              go_enter Tryd.func16, Tryd.ntmps16
              go_wp2_with (fail)
              refine (hh _).mono ?_
              rintro e w' ⟨rfl, rfl⟩
              go_wp2_with (go_at_call 36; refine (part_any _ _ _ (by decide)).mono ?_; rintro e w' ⟨rfl, rfl⟩)
              go_ret
              exact ⟨by rw [hz.out]; rfl, (Below.refl _ _).alloc (Nat.le_refl _) _⟩
    · rw [hlet] at hh
      unfold useB at hr
      rw [hrow] at hr
      clear hrow hlet
      have p1 : hasB ⟨#[110, 111]⟩ 110 = true := by decide
      have p2 : hasB ⟨#[110, 111]⟩ 111 = true := by decide
      have p3 : hasB ⟨#[110, 111]⟩ 97 = false := by decide
      have p4 : hasB ⟨#[110, 111]⟩ 99 = false := by decide
      have p5 : hasB ⟨#[110, 111]⟩ 100 = false := by decide
      cases e3 : decide (x.a = 0) with
      | false =>
        have hz : Hid (rightB x = false) := Lib.hid (by rw [hr]; simp [okS, okI, of_decide_eq_false e3])
        have g3 : (x.a == 0) = false := by rw [beq_eq_false_iff_ne]; exact of_decide_eq_false e3
        clear hr e3
        unfold Cmd.v
        go_enter Tryd.func16, Tryd.ntmps16
        go_wp2_with (fail)
        refine (hh _).mono ?_
        rintro e w' ⟨rfl, rfl⟩
        go_wp2_with (go_at_call 36; refine (part_any _ _ _ (by decide)).mono ?_; rintro e w' ⟨rfl, rfl⟩)
        go_ret
        exact ⟨by rw [hz.out]; rfl, (Below.refl _ _).alloc (Nat.le_refl _) _⟩
      | true =>
        have g3 : (x.a == 0) = true := by rw [beq_iff_eq]; exact of_decide_eq_true e3
        cases e4 : decide (x.c = 0) with
        | false =>
          have hz : Hid (rightB x = false) := Lib.hid (by rw [hr]; simp [okS, okI, of_decide_eq_true e3, of_decide_eq_false e4])
          have g4 : (x.c == 0) = false := by rw [beq_eq_false_iff_ne]; exact of_decide_eq_false e4
          clear hr e3 e4
          unfold Cmd.v
          go_enter Tryd.func16, Tryd.ntmps16
          go_wp2_with (fail)
          refine (hh _).mono ?_
          rintro e w' ⟨rfl, rfl⟩
          go_wp2_with (go_at_call 36; refine (part_any _ _ _ (by decide)).mono ?_; rintro e w' ⟨rfl, rfl⟩)
          go_ret
          exact ⟨by rw [hz.out]; rfl, (Below.refl _ _).alloc (Nat.le_refl _) _⟩
        | true =>
          have g4 : (x.c == 0) = true := by rw [beq_iff_eq]; exact of_decide_eq_true e4
          cases e5 : decide (x.d.size = 0) with
          | false =>
            have hz : Hid (rightB x = false) := Lib.hid (by rw [hr]; simp [okS, okI, of_decide_eq_true e3, of_decide_eq_true e4, of_decide_eq_false e5])
            have g5 : (x.d.toList == []) = false := by rw [toL_nil]; exact e5
            clear hr e3 e4 e5
            unfold Cmd.v
            go_enter Tryd.func16, Tryd.ntmps16
            go_wp2_with (fail)
            refine (hh _).mono ?_
            rintro e w' ⟨rfl, rfl⟩
            go_wp2_with (go_at_call 36; refine (part_any _ _ _ (by decide)).mono ?_; rintro e w' ⟨rfl, rfl⟩)
            go_ret
            exact ⟨by rw [hz.out]; rfl, (Below.refl _ _).alloc (Nat.le_refl _) _⟩
          | true =>
            have g5 : (x.d.toList == []) = true := by rw [toL_nil]; exact e5
            have hz : Hid (rightB x = true) := Lib.hid (by rw [hr]; simp [okS, okI, of_decide_eq_true e3, of_decide_eq_true e4, of_decide_eq_true e5])
            clear hr e3 e4 e5
            unfold Cmd.v
            go_enter Tryd.func16, Tryd.ntmps16
            go_wp2_with (fail)
            refine (hh _).mono ?_
            rintro e w' ⟨rfl, rfl⟩
            go_wp2_with (go_at_call 36; refine (part_any _ _ _ (by decide)).mono ?_; rintro e w' ⟨rfl, rfl⟩)
            go_ret
            exact ⟨by rw [hz.out]; rfl, (Below.refl _ _).alloc (Nat.le_refl _) _⟩
    · rw [hlet] at hh
      unfold useB at hr
      rw [hrow] at hr
      clear hrow hlet
      have p1 : hasB ⟨#[110, 97, 100]⟩ 110 = true := by decide
      have p2 : hasB ⟨#[110, 97, 100]⟩ 111 = false := by decide
      have p3 : hasB ⟨#[110, 97, 100]⟩ 97 = true := by decide
      have p4 : hasB ⟨#[110, 97, 100]⟩ 99 = false := by decide
      have p5 : hasB ⟨#[110, 97, 100]⟩ 100 = true := by decide
      cases e2 : decide (x.o.size = 0) with
      | false =>
        have hz : Hid (rightB x = false) := Lib.hid (by rw [hr]; simp [okS, okI, of_decide_eq_false e2])
        have g2 : (x.o.toList == []) = false := by rw [toL_nil]; exact e2
        clear hr e2
        unfold Cmd.v
        go_enter Tryd.func16, Tryd.ntmps16
        go_wp2_with (fail)
        refine (hh _).mono ?_
        rintro e w' ⟨rfl, rfl⟩
        go_wp2_with (go_at_call 36; refine (part_any _ _ _ (by decide)).mono ?_; rintro e w' ⟨rfl, rfl⟩)
        go_ret
        exact ⟨by rw [hz.out]; rfl, (Below.refl _ _).alloc (Nat.le_refl _) _⟩
      | true =>
        have g2 : (x.o.toList == []) = true := by rw [toL_nil]; exact e2
        cases e4 : decide (x.c = 0) with
        | false =>
          have hz : Hid (rightB x = false) := Lib.hid (by rw [hr]; simp [okS, okI, of_decide_eq_true e2, of_decide_eq_false e4])
          have g4 : (x.c == 0) = false := by rw [beq_eq_false_iff_ne]; exact of_decide_eq_false e4
          clear hr e2 e4
          unfold Cmd.v
          go_enter Tryd.func16, Tryd.ntmps16
          go_wp2_with (fail)
          refine (hh _).mono ?_
          rintro e w' ⟨rfl, rfl⟩
          go_wp2_with (go_at_call 36; refine (part_any _ _ _ (by decide)).mono ?_; rintro e w' ⟨rfl, rfl⟩)
          go_ret
          exact ⟨by rw [hz.out]; rfl, (Below.refl _ _).alloc (Nat.le_refl _) _⟩
        | true =>
          have g4 : (x.c == 0) = true := by rw [beq_iff_eq]; exact of_decide_eq_true e4
          have hz : Hid (rightB x = true) := Lib.hid (by rw [hr]; simp [okS, okI, of_decide_eq_true e2, of_decide_eq_true e4])
          clear hr e2 e4
          unfold Cmd.v
          go_enter Tryd.func16, Tryd.ntmps16
          go_wp2_with (fail)
          refine (hh _).mono ?_
          rintro e w' ⟨rfl, rfl⟩
          go_wp2_with (go_at_call 36; refine (part_any _ _ _ (by decide)).mono ?_; rintro e w' ⟨rfl, rfl⟩)
          go_ret
          exact ⟨by rw [hz.out]; rfl, (Below.refl _ _).alloc (Nat.le_refl _) _⟩
    · rw [hlet] at hh
      unfold useB at hr
      rw [hrow] at hr
      clear hrow hlet
      have p1 : hasB ⟨#[110, 97, 99]⟩ 110 = true := by decide
      have p2 : hasB ⟨#[110, 97, 99]⟩ 111 = false := by decide
      have p3 : hasB ⟨#[110, 97, 99]⟩ 97 = true := by decide
      have p4 : hasB ⟨#[110, 97, 99]⟩ 99 = true := by decide
      have p5 : hasB ⟨#[110, 97, 99]⟩ 100 = false := by decide
      cases e2 : decide (x.o.size = 0) with
      | false =>
        have hz : Hid (rightB x = false) := Lib.hid (by rw [hr]; simp [okS, okI, of_decide_eq_false e2])
        have g2 : (x.o.toList == []) = false := by rw [toL_nil]; exact e2
        clear hr e2
        unfold Cmd.v
        go_enter Tryd.func16, Tryd.ntmps16
        go_wp2_with (fail)
        refine (hh _).mono ?_
        rintro e w' ⟨rfl, rfl⟩
        go_wp2_with (go_at_call 36; refine (part_any _ _ _ (by decide)).mono ?_; rintro e w' ⟨rfl, rfl⟩)
        go_ret
        exact ⟨by rw [hz.out]; rfl, (Below.refl _ _).alloc (Nat.le_refl _) _⟩
      | true =>
        have g2 : (x.o.toList == []) = true := by rw [toL_nil]; exact e2
        cases e5 : decide (x.d.size = 0) with
        | false =>
          have hz : Hid (rightB x = false) := Lib.hid (by rw [hr]; simp [okS, okI, of_decide_eq_true e2, of_decide_eq_false e5])
          have g5 : (x.d.toList == []) = false := by rw [toL_nil]; exact e5
          clear hr e2 e5
          unfold Cmd.v
          go_enter Tryd.func16, Tryd.ntmps16
          go_wp2_with (fail)
          refine (hh _).mono ?_
          rintro e w' ⟨rfl, rfl⟩
          go_wp2_with (go_at_call 36; refine (part_any _ _ _ (by decide)).mono ?_; rintro e w' ⟨rfl, rfl⟩)
          go_ret
          exact ⟨by rw [hz.out]; rfl, (Below.refl _ _).alloc (Nat.le_refl _) _⟩
        | true =>
          have g5 : (x.d.toList == []) = true := by rw [toL_nil]; exact e5
          have hz : Hid (rightB x = true) := Lib.hid (by rw [hr]; simp [okS, okI, of_decide_eq_true e2, of_decide_eq_true e5])
          clear hr e2 e5
          unfold Cmd.v
          go_enter Tryd.func16, Tryd.ntmps16
          go_wp2_with (fail)
          refine (hh _).mono ?_
          rintro e w' ⟨rfl, rfl⟩
          go_wp2_with (go_at_call 36; refine (part_any _ _ _ (by decide)).mono ?_; rintro e w' ⟨rfl, rfl⟩)
          go_ret
          exact ⟨by rw [hz.out]; rfl, (Below.refl _ _).alloc (Nat.le_refl _) _⟩
    · rw [hlet] at hh
      unfold useB at hr
      rw [hrow] at hr
      clear hrow hlet
      have p1 : hasB ⟨#[]⟩ 110 = false := by decide
      have p2 : hasB ⟨#[]⟩ 111 = false := by decide
      have p3 : hasB ⟨#[]⟩ 97 = false := by decide
      have p4 : hasB ⟨#[]⟩ 99 = false := by decide
      have p5 : hasB ⟨#[]⟩ 100 = false := by decide
      cases e1 : decide (x.n.size = 0) with
      | false =>
        have hz : Hid (rightB x = false) := Lib.hid (by rw [hr]; simp [okS, okI, of_decide_eq_false e1])
        have g1 : (x.n.toList == []) = false := by rw [toL_nil]; exact e1
        clear hr e1
        unfold Cmd.v
        go_enter Tryd.func16, Tryd.ntmps16
        go_wp2_with (fail)
        refine (hh _).mono ?_
        rintro e w' ⟨rfl, rfl⟩
        go_wp2_with (go_at_call 36; refine (part_any _ _ _ (by decide)).mono ?_; rintro e w' ⟨rfl, rfl⟩)
        go_ret
        exact ⟨by rw [hz.out]; rfl, (Below.refl _ _).alloc (Nat.le_refl _) _⟩
      | true =>
        have g1 : (x.n.toList == []) = true := by rw [toL_nil]; exact e1
        cases e2 : decide (x.o.size = 0) with
        | false =>
          have hz : Hid (rightB x = false) := Lib.hid (by rw [hr]; simp [okS, okI, of_decide_eq_true e1, of_decide_eq_false e2])
          have g2 : (x.o.toList == []) = false := by rw [toL_nil]; exact e2
          clear hr e1 e2
          unfold Cmd.v
          go_enter Tryd.func16, Tryd.ntmps16
          go_wp2_with (fail)
          refine (hh _).mono ?_
          rintro e w' ⟨rfl, rfl⟩
          go_wp2_with (go_at_call 36; refine (part_any _ _ _ (by decide)).mono ?_; rintro e w' ⟨rfl, rfl⟩)
          go_ret
          exact ⟨by rw [hz.out]; rfl, (Below.refl _ _).alloc (Nat.le_refl _) _⟩
        | true =>
          have g2 : (x.o.toList == []) = true := by rw [toL_nil]; exact e2
          cases e3 : decide (x.a = 0) with
          | false =>
            have hz : Hid (rightB x = false) := Lib.hid (by rw [hr]; simp [okS, okI, of_decide_eq_true e1, of_decide_eq_true e2, of_decide_eq_false e3])
            have g3 : (x.a == 0) = false := by rw [beq_eq_false_iff_ne]; exact of_decide_eq_false e3
            clear hr e1 e2 e3
            unfold Cmd.v
            go_enter Tryd.func16, Tryd.ntmps16
            go_wp2_with (fail)
            refine (hh _).mono ?_
            rintro e w' ⟨rfl, rfl⟩
            go_wp2_with (go_at_call 36; refine (part_any _ _ _ (by decide)).mono ?_; rintro e w' ⟨rfl, rfl⟩)
            go_ret
            exact ⟨by rw [hz.out]; rfl, (Below.refl _ _).alloc (Nat.le_refl _) _⟩
          | true =>
            have g3 : (x.a == 0) = true := by rw [beq_iff_eq]; exact of_decide_eq_true e3
            cases e4 : decide (x.c = 0) with
            | false =>
              have hz : Hid (rightB x = false) := Lib.hid (by rw [hr]; simp [okS, okI, of_decide_eq_true e1, of_decide_eq_true e2, of_decide_eq_true e3, of_decide_eq_false e4])
              have g4 : (x.c == 0) = false := by rw [beq_eq_false_iff_ne]; exact of_decide_eq_false e4
              clear hr e1 e2 e3 e4
              unfold Cmd.v
              go_enter Tryd.func16, Tryd.ntmps16
              go_wp2_with (fail)
              refine (hh _).mono ?_
              rintro e w' ⟨rfl, rfl⟩
              go_wp2_with (go_at_call 36; refine (part_any _ _ _ (by decide)).mono ?_; rintro e w' ⟨rfl, rfl⟩)
              go_ret
              exact ⟨by rw [hz.out]; rfl, (Below.refl _ _).alloc (Nat.le_refl _) _⟩
            | true =>
              have g4 : (x.c == 0) = true := by rw [beq_iff_eq]; exact of_decide_eq_true e4
              cases e5 : decide (x.d.size = 0) with
              | false =>
                have hz : Hid (rightB x = false) := Lib.hid (by rw [hr]; simp [okS, okI, of_decide_eq_true e1, of_decide_eq_true e2, of_decide_eq_true e3, of_decide_eq_true e4, of_decide_eq_false e5])
                have g5 : (x.d.toList == []) = false := by rw [toL_nil]; exact e5
                clear hr e1 e2 e3 e4 e5
                unfold Cmd.v
                go_enter Tryd.func16, Tryd.ntmps16
                go_wp2_with (fail)
                refine (hh _).mono ?_
                rintro e w' ⟨rfl, rfl⟩
                go_wp2_with (go_at_call 36; refine (part_any _ _ _ (by decide)).mono ?_; rintro e w' ⟨rfl, rfl⟩)
                go_ret
                exact ⟨by rw [hz.out]; rfl, (Below.refl _ _).alloc (Nat.le_refl _) _⟩
              | true =>
                have g5 : (x.d.toList == []) = true := by rw [toL_nil]; exact e5
                have hz : Hid (rightB x = true) := Lib.hid (by rw [hr]; simp [okS, okI, of_decide_eq_true e1, of_decide_eq_true e2, of_decide_eq_true e3, of_decide_eq_true e4, of_decide_eq_true e5])
                clear hr e1 e2 e3 e4 e5
                unfold Cmd.v
                go_enter Tryd.func16, Tryd.ntmps16
                go_wp2_with (fail)
                refine (hh _).mono ?_
                rintro e w' ⟨rfl, rfl⟩
                go_wp2_with (go_at_call 36; refine (part_any _ _ _ (by decide)).mono ?_; rintro e w' ⟨rfl, rfl⟩)
                go_ret
                exact ⟨by rw [hz.out]; rfl, (Below.refl _ _).alloc (Nat.le_refl _) _⟩
end Go.Proofs.YtjbekphjhmlloaaDoor
