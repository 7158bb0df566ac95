/- pack's laws: what they lean on; numbers and texts. -/
import Derived.Test.YtkjpdpjogcifoaaDoorRdText
namespace Go.Proofs.YtkjpdpjogcifoaaDoor
open Go.RowKit
set_option linter.unusedVariables false
set_option linter.unusedSimpArgs false

theorem below_p {w0 w w' : World} (h : Below w0.heap.size w0 w) (hb : Below w.heap.size w w') : Below w0.heap.size w0 w' := h.trans (hb.mono h.size)

/-- Which of n things a raw number speaks of. -/
def pk (c n : Int) : Int := (if c < 0 then -(c + 1) else c) % n
theorem pk_rng (c n : Int) (h : 1 ≤ n) : 0 ≤ pk c n ∧ pk c n < n := by
  unfold pk; exact ⟨Int.emod_nonneg _ (by omega), Int.emod_lt_of_pos _ (by omega)⟩
theorem pick_any (c n : Int) (w : World) (h1 : -9223372036854775808 ≤ c) (h2 : c ≤ 9223372036854775807) (h3 : 1 ≤ n) (h4 : n ≤ 9223372036854775807) :
    Calls Tryd.prog 26 #[.int .i64 c, .int .i64 n] w fun e w' => e = .returned (.int .i64 (pk c n)) ∧ w = w' := by
  by_cases hc : c < 0
  · have hp : Hid (pk c n = -((c + 1).tmod n)) := Lib.hid (by unfold pk; rw [if_pos hc, ← Int.neg_tmod, Int.tmod_eq_emod_of_nonneg (by omega)])
    go_enter Tryd.func26, Tryd.ntmps26
    go_wp2
    go_ret
    exact ⟨by rw [hp.out]; rfl, rfl⟩
  · have hp : Hid (pk c n = c % n) := Lib.hid (by unfold pk; rw [if_neg hc])
    go_enter Tryd.func26, Tryd.ntmps26
    go_wp2
    go_ret
    exact ⟨by rw [hp.out]; rfl, rfl⟩

theorem pick_nat (n m : Int) (h1 : -9223372036854775808 ≤ n) (h2 : n ≤ 9223372036854775807) (h3 : 1 ≤ m) (h4 : m ≤ 9223372036854775807) :
    ∃ p : Nat, (p : Int) < m ∧ pk n m = (p : Int) ∧ ∀ w, Calls Tryd.prog 26 #[.int .i64 n, .int .i64 m] w fun e w' => e = .returned (.int .i64 (p : Int)) ∧ w = w' := by
  have hr := pk_rng n m h3
  obtain ⟨p, hp⟩ := Int.eq_ofNat_of_zero_le hr.1
  refine ⟨p, by omega, hp, fun w => ?_⟩
  rw [← hp]
  exact pick_any n m w h1 h2 h3 (by omega)
/-- What a call that reads a reader alone leaves. -/
theorem DrewR.to {w w' : World} {v : Value} {e : Ending} (h : DrewR w v e w') : e = .returned v ∧ Below w.heap.size w w' ∧ w'.heap = w.heap := by
  obtain ⟨h1, n, rfl⟩ := h
  exact ⟨h1, drew_below w n, rfl⟩
theorem RdAt.heap {w w' : World} {b : Nat} {s : ByteArray} {bad : Bool} (h : RdAt w b s bad) (e : w'.heap = w.heap) : RdAt w' b s bad :=
  ⟨by simp only [World.cell?, e]; exact h.c0, by simp only [World.cell?, e]; exact h.c1, by simp only [World.frozen?, e]; exact h.f0, by simp only [World.frozen?, e]; exact h.f1, by rw [e]; exact h.lt⟩
set_option maxRecDepth 100000 in
theorem aw_facts : (numL 258 2 = ⟨#[1, 2]⟩ ∧ numE 258 2 = 0 ∧ numE 256 1 = 50 ∧ fillL ⟨#[97]⟩ 3 = ⟨#[97, 0, 0]⟩ ∧ fillE ⟨#[97]⟩ 3 = 0) ∧ (numV ⟨#[1, 2, 97, 0]⟩ false 2 = 258 ∧ okN ⟨#[1, 2, 97, 0]⟩ false 2 = true ∧ numR ⟨#[1, 2, 97, 0]⟩ false 2 = ⟨#[97, 0]⟩) ∧ (txtS ⟨#[97, 0]⟩ false 1 = ⟨#[97]⟩ ∧ okT ⟨#[97, 0]⟩ false 1 = true ∧ txtR ⟨#[97, 0]⟩ false 1 = ⟨#[0]⟩) ∧ zeroB ⟨#[0]⟩ = true := by decide +kernel
set_option maxRecDepth 100000 in
set_option maxHeartbeats 1000000 in
theorem pawake_any (w : World) : Calls Tryd.prog 9 #[] w fun e w' => e = .returned (.bool true) ∧ Below w.heap.size w w' := by
  obtain ⟨⟨f1, f2, f3, f4, f5⟩, ⟨f6, f7, f8⟩, ⟨f9, f10, f11⟩, f12⟩ := aw_facts
  have c1 := fun W => num_any 258 2 W
  have c2 := fun W => num_any 256 1 W
  have c3 := fun W => fill_any ⟨#[97]⟩ 3 W (by decide)
  have c4 := fun W => new_any ⟨#[1, 2, 97, 0]⟩ W
  have c5 := fun W b h => rdnum_any b ⟨#[1, 2, 97, 0]⟩ false 2 W h (by decide)
  have c6 := fun W b h => rdtext_any b ⟨#[97, 0]⟩ false 1 W h (by decide)
  have c7 := fun W b h => left_any b ⟨#[0]⟩ false W h
  have c8 := fun W b h => ends_any b ⟨#[0]⟩ false W h (by decide)
  have c9 := fun W b h => bad_any b ⟨#[0]⟩ false W h
  rw [f1, f2] at c1
  rw [f3] at c2
  rw [f4, f5] at c3
  rw [f6, f7, f8] at c5
  rw [f9, f10, f11] at c6
  rw [f12] at c8
  generalize numL 256 1 = x at *
  clear f1 f2 f3 f4 f5 f6 f7 f8 f9 f10 f11 f12
  go_enter Tryd.func9, Tryd.ntmps9
  go_wp2_with (fail)
  refine (c1 _).mono ?_
  rintro e w1 ⟨rfl, b1⟩
  go_wp2_with (fail)
  refine (c2 _).mono ?_
  rintro e w2 ⟨rfl, b2⟩
  go_wp2_with (fail)
  refine (c3 _).mono ?_
  rintro e w3 ⟨rfl, b3⟩
  go_wp2_with (fail)
  refine (c4 _).mono ?_
  rintro e w4 ⟨rfl, hw4⟩
  have r4 : RdAt w4 w3.heap.size ⟨#[1, 2, 97, 0]⟩ false := by rw [hw4]; exact RdAt.made _ _ _
  have b4 : Below w3.heap.size w3 w4 := by rw [hw4]; exact (Below.refl _ _).alloc (Nat.le_refl _) _
  clear hw4
  go_wp2_with (fail)
  refine (c5 _ _ r4).mono ?_
  rintro e w5 ⟨rfl, r5⟩
  have b5 := r5.below (Nat.le_refl _) b4.size
  go_wp2_with (fail)
  refine (c6 _ _ r5.r).mono ?_
  rintro e w6 ⟨rfl, r6⟩
  have b6 := r6.below (Nat.le_refl _) (Nat.le_trans b4.size r5.size)
  go_wp2_with (fail)
  refine (c7 _ _ r6.r).mono ?_
  rintro e wq ⟨rfl, rfl⟩
  go_wp2_with (fail)
  refine (c8 _ _ r6.r).mono ?_
  intro e w7 h7
  obtain ⟨rfl, b7, e7⟩ := h7.to
  have r7 := r6.r.heap e7
  clear e7 h7
  go_wp2_with (fail)
  refine (c9 _ _ r7).mono ?_
  rintro e wq ⟨rfl, rfl⟩
  go_wp2_with (fail)
  go_ret
  exact ⟨rfl, below_p (below_p (below_p (below_p b1 b2) b3) ((b4.trans b5).trans b6)) b7⟩
set_option maxRecDepth 100000 in
set_option maxHeartbeats 1000000 in
theorem ptells_walk (n width : Int) (s : ByteArray) (long : Int) (w : World) (hs : s.size ≤ 140737488351232) :
    Calls Tryd.prog 3 #[.int .i64 n, .int .i64 width, .string s, .int .i64 long] w fun e w' => e = .returned (.bool true) ∧ Below w.heap.size w w' := by
  have c1 := fun W => num_any n width W
  have c2 := fun W => rnum_any n width W
  have c3 := fun W => fill_any s long W hs
  have c4 := fun W => rfill_any s long W hs
  generalize numL n width = x1 at *
  generalize numE n width = y1 at *
  generalize fillL s long = x2 at *
  generalize fillE s long = y2 at *
  go_enter Tryd.func3, Tryd.ntmps3
  go_wp2_with (fail)
  refine (pawake_any _).mono ?_
  rintro e w0 ⟨rfl, b0⟩
  go_wp2_with (fail)
  refine (c1 _).mono ?_
  rintro e w1 ⟨rfl, b1⟩
  go_wp2_with (fail)
  refine (c2 _).mono ?_
  rintro e w2 ⟨rfl, b2⟩
  go_wp2_with (fail)
  refine (c3 _).mono ?_
  rintro e w3 ⟨rfl, b3⟩
  go_wp2_with (fail)
  refine (c4 _).mono ?_
  rintro e w4 ⟨rfl, b4⟩
  go_wp2_with (fail)
  go_ret
  exact ⟨rfl, below_p (below_p (below_p (below_p b0 b1) b2) b3) b4⟩
theorem bytes_less : ∀ x y : List UInt8, Op.bytesLess x y = decide (x < y)
  | _, [] => by simp [Op.bytesLess]
  | [], b :: y => by simp [Op.bytesLess]
  | a :: x, b :: y => by
    rw [Op.bytesLess, bytes_less x y, Bool.eq_iff_iff]
    simp [List.cons_lt_cons_iff]
set_option maxRecDepth 100000 in
set_option maxHeartbeats 2000000 in
theorem prises_walk (n m width : Int) (w : World) (rn : -9223372036854775808 ≤ n ∧ n ≤ 9223372036854775807) (rm : -9223372036854775808 ≤ m ∧ m ≤ 9223372036854775807) (rw_ : -9223372036854775808 ≤ width ∧ width ≤ 9223372036854775807) :
    Calls Tryd.prog 7 #[.int .i64 n, .int .i64 m, .int .i64 width] w fun e w' => e = .returned (.bool true) ∧ Below w.heap.size w w' := by
  obtain ⟨x, hx, _, kx⟩ := pick_nat width 7 rw_.1 rw_.2 (by decide) (by decide)
  obtain ⟨W, hW⟩ : ∃ W, W = 1 + x := ⟨_, rfl⟩
  have hW1 : 1 + (x : Int) = (W : Int) := by omega
  obtain ⟨p1, p2⟩ := pow_wrap (W := W) (by omega) (by omega)
  have hpos : 1 ≤ 256 ^ W := Nat.pow_pos (by decide)
  obtain ⟨N, hN, _, kN⟩ := pick_nat n ((256 ^ W : Nat) : Int) rn.1 rn.2 (by omega) (by omega)
  obtain ⟨M, hM, _, kM⟩ := pick_nat m ((256 ^ W : Nat) : Int) rm.1 rm.2 (by omega) (by omega)
  have c1 := fun W' => num_right N W W' (by omega) (by omega) (by omega)
  have c2 := fun W' => num_right M W W' (by omega) (by omega) (by omega)
  have hr := Pk.be_rises W (n := N) (m := M) (by omega) (by omega)
  have hi : Pk.be W N = Pk.be W M ↔ N = M := ⟨Pk.be_inj (by omega) (by omega), fun h => by rw [h]⟩
  have e1 : ((lineOf (Pk.be W N)).toList == (lineOf (Pk.be W M)).toList) = decide (N = M) := by
    rw [Lib.toList_data, Lib.toList_data, list_lineOf, list_lineOf, Bool.eq_iff_iff, beq_iff_eq, decide_eq_true_eq, hi]
  have e3 : Op.bytesLess (lineOf (Pk.be W N)).toList (lineOf (Pk.be W M)).toList = decide (N < M) := by
    rw [Lib.toList_data, Lib.toList_data, list_lineOf, list_lineOf, bytes_less, decide_eq_decide, hr]
  have e2 : (((N : Nat) : Int) == ((M : Nat) : Int)) = decide (N = M) := by
    rw [Bool.eq_iff_iff, beq_iff_eq, decide_eq_true_eq]; omega
  have hW7 : (W : Int) ≤ 7 := by omega
  have hp1 := Lib.hid p1
  clear p1 hW
  go_enter Tryd.func7, Tryd.ntmps7
  go_wp2_with (fail)
  refine (pawake_any _).mono ?_
  rintro e w0 ⟨rfl, b0⟩
  go_wp2_with (fail)
  refine (kx _).mono ?_
  rintro e wq ⟨rfl, rfl⟩
  go_wp2_with (fail)
  rw [hp1.out]
  refine (kN _).mono ?_
  rintro e wq ⟨rfl, rfl⟩
  go_wp2_with (fail)
  rw [hp1.out]
  refine (kM _).mono ?_
  rintro e wq ⟨rfl, rfl⟩
  go_wp2_with (fail)
  refine (c1 _).mono ?_
  rintro e w1 ⟨rfl, b1⟩
  go_wp2_with (fail)
  refine (c2 _).mono ?_
  rintro e w2 ⟨rfl, b2⟩
  go_wp2_with (fail)
  go_ret
  exact ⟨rfl, below_p (below_p b0 b1) b2⟩
end Go.Proofs.YtkjpdpjogcifoaaDoor
