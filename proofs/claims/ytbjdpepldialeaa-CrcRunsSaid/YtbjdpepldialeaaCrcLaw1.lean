/- The laws of crc: what reads alone. -/
import Derived.Test.YtbjdpepldialeaaCrcRef
import Derived.Deep.RegionWith
import Derived.BigQuiet
import Derived.Deep.QuietTactic
namespace Go.Proofs.Ytbjdpepldialeaa
open Go.RowKit
set_option linter.unusedVariables false
set_option linter.unusedSimpArgs false

/-- Which of n things a raw number speaks of. -/
def pk (c n : Int) : Int := (if c < 0 then -(c + 1) else c) % n
theorem pk_rng (c n : Int) (h : 1 ≤ n) : 0 ≤ pk c n ∧ pk c n < n := by
  unfold pk; exact ⟨Int.emod_nonneg _ (by omega), Int.emod_lt_of_pos _ (by omega)⟩
theorem pick_any (c n : Int) (w : World) (h1 : -9223372036854775808 ≤ c) (h2 : c ≤ 9223372036854775807) (h3 : 1 ≤ n) (h4 : n ≤ 9223372036854775807) :
    Calls Try.prog 18 #[.int .i64 c, .int .i64 n] w fun e w' => e = .returned (.int .i64 (pk c n)) ∧ w = w' := by
  by_cases hc : c < 0
  · have hp : Hid (pk c n = -((c + 1).tmod n)) := Lib.hid (by unfold pk; rw [if_pos hc, ← Int.neg_tmod, Int.tmod_eq_emod_of_nonneg (by omega)])
    go_enter Try.func18, Try.ntmps18
    go_wp2
    go_ret
    exact ⟨by rw [hp.out]; rfl, rfl⟩
  · have hp : Hid (pk c n = c % n) := Lib.hid (by unfold pk; rw [if_neg hc])
    go_enter Try.func18, Try.ntmps18
    go_wp2
    go_ret
    exact ⟨by rw [hp.out]; rfl, rfl⟩

theorem awake_any (w : World) : Calls Try.prog 9 #[] w fun e w' => e = .returned (.bool true) ∧ w = w' := by
  have f1 : Crc.sum [49, 50, 51, 52, 53, 54, 55, 56, 57] = 3808858755 := by decide +kernel
  have f2 : Crc.sum [] = 0 := by decide +kernel
  have f3 : Crc.fin (Crc.go 4294967295 [49, 50, 51, 52, 53, 54, 55, 56, 57]) = 3808858755 := by decide +kernel
  have f4 := Crc.go_lt (s := 4294967295) (by decide) [49, 50, 51, 52, 53, 54, 55, 56, 57]
  go_enter Try.func9, Try.ntmps9
  go_wp2_with (first
    | (go_at_call 10; refine (sum_any _ _ (by decide)).mono ?_; rintro e w' ⟨rfl, rfl⟩)
    | (go_at_call 14; refine (begin_any _).mono ?_; rintro e w' ⟨rfl, rfl⟩)
    | (go_at_call 12; refine (go_any 4294967295 _ _ (by decide) (by decide) (by decide)).mono ?_; rintro e w' ⟨rfl, rfl⟩)
    | (go_at_call 16; refine (end_any _ _ (by omega) (by omega)).mono ?_; rintro e w' ⟨rfl, rfl⟩))
  go_ret
  exact ⟨rfl, rfl⟩

theorem states_same (a b : Nat) (s : ByteArray) (w : World) (ha : a < 4294967296) (hb : b < 4294967296) (hs : s.size ≤ maxLen) (h : a = b) :
    Calls Try.prog 7 #[.int .u32 (a : Int), .int .u32 (b : Int), .string s] w fun e w' => e = .returned (.bool true) ∧ w = w' := by
  subst h
  go_enter Try.func7, Try.ntmps7
  go_wp2_with (first
    | (go_at_call 9; refine (awake_any _).mono ?_; rintro e w' ⟨rfl, rfl⟩)
    | (go_at_call 12; refine (go_any _ _ _ (by omega) (by omega) hs).mono ?_; rintro e w' ⟨rfl, rfl⟩)
    | (go_at_call 16; refine (end_any _ _ (by omega) (by omega)).mono ?_; rintro e w' ⟨rfl, rfl⟩))
  go_ret
  exact ⟨rfl, rfl⟩
theorem states_other (a b : Nat) (s : ByteArray) (w : World) (ha : a < 4294967296) (hb : b < 4294967296) (hs : s.size ≤ maxLen) (h : a ≠ b) :
    Calls Try.prog 7 #[.int .u32 (a : Int), .int .u32 (b : Int), .string s] w fun e w' => e = .returned (.bool true) ∧ w = w' := by
  have t0 : ((a : Int) == (b : Int)) = false := by rw [beq_eq_false_iff_ne]; omega
  have t1 : (((Crc.go a s.data.toList : Nat) : Int) == ((Crc.go b s.data.toList : Nat) : Int)) = false := by rw [beq_eq_false_iff_ne]; exact fun e => h (Crc.go_inj ha hb s.data.toList (by omega))
  have t2 : (((Crc.fin a : Nat) : Int) == ((Crc.fin b : Nat) : Int)) = false := by rw [beq_eq_false_iff_ne]; exact fun e => h (Crc.fin_inj (by omega))
  clear h
  go_enter Try.func7, Try.ntmps7
  go_wp2_with (first
    | (go_at_call 9; refine (awake_any _).mono ?_; rintro e w' ⟨rfl, rfl⟩)
    | (go_at_call 12; refine (go_any _ _ _ (by omega) (by omega) hs).mono ?_; rintro e w' ⟨rfl, rfl⟩)
    | (go_at_call 16; refine (end_any _ _ (by omega) (by omega)).mono ?_; rintro e w' ⟨rfl, rfl⟩))
  go_ret
  exact ⟨rfl, rfl⟩

theorem below_c {w0 w w' : World} (h : Below w0.heap.size w0 w) (hb : Below w.heap.size w w') : Below w0.heap.size w0 w' := h.trans (hb.mono h.size)
theorem rsum_c {w0 : World} (s : ByteArray) (w : World) (h : Below w0.heap.size w0 w) (hs : s.size ≤ 3000) :
    Calls Try.prog 11 #[.string s] w fun e w' => e = .returned (.int .u32 ((Crc.sum s.data.toList : Nat) : Int)) ∧ Below w0.heap.size w0 w' :=
  (rsum_any s w hs).mono fun e w' ⟨he, hb⟩ => ⟨he, below_c h hb⟩
theorem rgo_c {w0 : World} (n : Int) (s : ByteArray) (w : World) (hb0 : Below w0.heap.size w0 w) (h0 : 0 ≤ n) (h : n < 4294967296) (hs : s.size ≤ 3000) :
    Calls Try.prog 13 #[.int .u32 n, .string s] w fun e w' => e = .returned (.int .u32 ((Crc.go n.toNat s.data.toList : Nat) : Int)) ∧ Below w0.heap.size w0 w' :=
  (rgo_any n s w h0 h hs).mono fun e w' ⟨he, hb⟩ => ⟨he, below_c hb0 hb⟩

set_option maxRecDepth 100000 in
theorem tells_walk (s : ByteArray) (n : Nat) (w : World) (hn : n < 4294967296) (hs : s.size ≤ maxLen) :
    Calls Try.prog 3 #[.string s, .int .u32 (n : Int)] w fun e w' => e = .returned (.bool true) ∧ Below w.heap.size w w' := by
  unfold maxLen at hs
  have hb0 := Below.refl w.heap.size w
  have hx : (s.extract 0 3000).size ≤ 3000 := by simp; omega
  rcases Nat.lt_or_ge 3000 s.size with hlt | hlt
  all_goals
    go_enter Try.func3, Try.ntmps3
    go_wp2_with (first
      | (go_at_call 9; refine (awake_any _).mono ?_; rintro e w' ⟨rfl, rfl⟩)
      | (go_at_call 10; refine (sum_any _ _ (by unfold maxLen; omega)).mono ?_; rintro e w' ⟨rfl, rfl⟩)
      | (go_at_call 11; refine (rsum_c _ _ (by assumption) (by omega)).mono ?_; rintro e w' ⟨rfl, hbel⟩)
      | (go_at_call 12; refine (go_any _ _ _ (by omega) (by omega) (by unfold maxLen; omega)).mono ?_; rintro e w' ⟨rfl, rfl⟩)
      | (go_at_call 13; refine (rgo_c _ _ _ (by assumption) (by omega) (by omega) (by omega)).mono ?_; rintro e w' ⟨rfl, hbel⟩)
      | (go_at_call 14; refine (begin_any _).mono ?_; rintro e w' ⟨rfl, rfl⟩)
      | (go_at_call 15; refine (rbegin_any _).mono ?_; rintro e w' ⟨rfl, rfl⟩)
      | (go_at_call 16; refine (end_any _ _ (by omega) (by omega)).mono ?_; rintro e w' ⟨rfl, rfl⟩)
      | (go_at_call 17; refine (rend_any _ _ (by omega) (by omega)).mono ?_; rintro e w' ⟨rfl, rfl⟩))
    go_ret
    exact ⟨rfl, hbel⟩

theorem go_begin (s : ByteArray) (w : World) (hs : s.size ≤ maxLen) :
    Calls Try.prog 12 #[.int .u32 4294967295, .string s] w fun e w' => e = .returned (.int .u32 ((Crc.go 4294967295 s.data.toList : Nat) : Int)) ∧ w' = w :=
  (go_any 4294967295 s w (by decide) (by decide) hs).mono fun _ _ h => ⟨h.1, h.2.symm⟩
theorem go_next (n : Nat) (s : ByteArray) (w : World) (h : n < 4294967296) (hs : s.size ≤ maxLen) :
    Calls Try.prog 12 #[.int .u32 (n : Int), .string s] w fun e w' => e = .returned (.int .u32 ((Crc.go n s.data.toList : Nat) : Int)) ∧ w' = w :=
  (go_nat n s w h hs).mono fun _ _ h => ⟨h.1, h.2.symm⟩
/-! Cuts. -/
set_option maxRecDepth 100000 in
theorem cuts_walk (s : ByteArray) (c a : Int) (w : World) (hs : s.size ≤ 140737488351232) (h1 : -9223372036854775808 ≤ c) (h2 : c ≤ 9223372036854775807) (h3 : -9223372036854775808 ≤ a) (h4 : a ≤ 9223372036854775807) :
    Calls Try.prog 4 #[.string s, .int .i64 c, .int .i64 a] w fun e w' => e = .returned (.bool true) ∧ Below w.heap.size w w' := by
  have hxs : ∀ i j, (s.extract i j).size ≤ maxLen := fun i j => by unfold maxLen; simp; omega
  have p1 := pk_rng c (s.size + 1) (by omega)
  obtain ⟨i, hi⟩ := Int.eq_ofNat_of_zero_le p1.1
  have p2 := pk_rng a (s.size - i + 1) (by omega)
  obtain ⟨d, hd⟩ := Int.eq_ofNat_of_zero_le p2.1
  have b1 : i ≤ s.size := by omega
  have b2 : i + d ≤ s.size := by omega
  have hall : Hid (Crc.fin (Crc.go (Crc.go (Crc.go 4294967295 (s.data.toList.take i)) ((s.data.toList.drop i).take d)) ((s.data.toList.drop (i + d)).take (s.size - (i + d)))) = Crc.sum s.data.toList) := Lib.hid (by
    rw [← Crc.go_append, ← Crc.go_append, ← List.append_assoc, ← List.take_add, List.take_of_length_le (l := s.data.toList.drop (i + d)) (by simp), List.take_append_drop]
    rfl)
  have HI := Lib.hid hi
  have HD := Lib.hid hd
  clear p1 p2 hi hd
  go_enter Try.func4, Try.ntmps4
  go_wp2_with (first
    | (go_at_call 9; refine (awake_any _).mono ?_; rintro e w' ⟨rfl, rfl⟩)
    | (go_at_call_of 18 c; refine (pick_any c _ _ h1 h2 (by omega) (by omega)).mono ?_; rintro e w' ⟨rfl, rfl⟩; rw [HI.out])
    | (go_at_call_of 18 a; refine (pick_any a _ _ h3 h4 (by omega) (by omega)).mono ?_; rintro e w' ⟨rfl, rfl⟩; rw [HD.out]))
  have q1 : (0 : Int) ≤ (i : Int) := by omega
  have q2 : (i : Int) ≤ (s.size : Int) := by omega
  have q3 : (i : Int) ≤ (i : Int) + (d : Int) := by omega
  have q4 : (i : Int) + (d : Int) ≤ (s.size : Int) := by omega
  have q5 : (0 : Int) ≤ (i : Int) + (d : Int) := by omega
  have q6 : ((i : Int) + (d : Int)).toNat = i + d := by omega
  go_quiet ((first
    | (go_at_call 14; exact Calls.quiet_of_same ((begin_any _).mono fun _ _ h => ⟨h.1, h.2.symm⟩))
    | (go_at_call 12; first | (with_reducible exact Calls.quiet_of_same (go_begin _ _ (hxs _ _))) | (with_reducible exact Calls.quiet_of_same (go_next _ _ _ (by first | exact Crc.go_lt (by decide) _ | exact Crc.go_lt (Crc.go_lt (by decide) _) _) (hxs _ _))))))
  go_wp2_with (first
    | (go_at_call 16; refine (end_nat _ _ (by first | exact Crc.go_lt (Crc.go_lt (Crc.go_lt (by decide) _) _) _)).mono ?_; rintro e w' ⟨rfl, rfl⟩)
    | (go_at_call 10; refine (sum_any _ _ (by unfold maxLen; omega)).mono ?_; rintro e w' ⟨rfl, rfl⟩))
  go_ret
  refine ⟨?_, ⟨rfl, rfl, rfl, Nat.le_refl _, fun _ _ => rfl⟩⟩
  show Ending.returned (.bool (_ == _)) = _
  rw [hall.out, beq_self_eq_true]
end Go.Proofs.Ytbjdpepldialeaa
