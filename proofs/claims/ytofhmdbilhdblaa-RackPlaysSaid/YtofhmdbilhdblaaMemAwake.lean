/- member: awake. -/
import Derived.Test.YtofhmdbilhdblaaMemAw
namespace Go.Proofs.Ytofhmdbilhdblaa
open Go.RowKit
set_option linter.unusedVariables false
set_option linter.unusedSimpArgs false

set_option maxRecDepth 100000 in
set_option maxHeartbeats 2000000 in
theorem awake_any (w : World) : Calls Try.prog 6 #[] w (Ends w true) := by
  have cN : Calls Try.prog 7 #[.int .i64 4] w fun e w' => ∃ m g bp cap, MBs w m g bp cap (List.replicate 4 zero128) noV (.tuple #[.pointer (some ⟨m, 0, none⟩), .int .i64 0]) e w' := mb_new 4 w (by omega) (by omega)
  have c65 : ∀ W, Calls Try.prog 11 #[.int .i64 65] W (GivesS W (sec 65)) := fun W => sector_any 65 (in64_iff.2 (by omega)) W
  have c66 : ∀ W, Calls Try.prog 11 #[.int .i64 66] W (GivesS W (sec 66)) := fun W => sector_any 66 (in64_iff.2 (by omega)) W
  go_enter Try.func6, Try.ntmps6
  go_wp2_with (fail)
  refine cN.mono ?_
  rintro e w1 ⟨m, g, bp, cap, rfl, h1⟩
  clear cN
  go_wp2_with (fail)
  refine (c65 _).mono ?_
  rintro e w2 ⟨rfl, b2⟩
  have h2 := h1.after b2
  have hl : (List.replicate 4 zero128).length = 4 := by simp
  have cW := mb_write h2 2 (by rw [hl]; omega) (sec 65) (sec_size 65) (by simp [noV])
  clear h1 h2 b2
  go_wp2_with (fail)
  refine cW.mono ?_
  rintro e w3 ⟨rfl, h3⟩
  clear cW
  go_wp2_with (fail)
  refine (c66 _).mono ?_
  rintro e w4 ⟨rfl, b4⟩
  have h4 := h3.after b4
  have cW := mb_write h4 2 (by rw [hl]; omega) (sec 66) (sec_size 66) (by rw [show (((2 : Nat) : Int)) = (2 : Int) from rfl, updZ_same]; simp [noV])
  rw [updZ_same, updZ_twice] at cW
  clear h3 h4 b4
  go_wp2_with (fail)
  refine cW.mono ?_
  rintro e w5 ⟨rfl, h5⟩
  clear cW
  have cC := mb_crash h5 1 (in64_iff.2 (by omega)) (fun z => by unfold updZ noV; split <;> simp)
  have e5 : crash (List.replicate 4 zero128) (updZ noV (((2 : Nat) : Int)) (noV (((2 : Nat) : Int)) ++ [sec 65] ++ [sec 66])) [1] = (List.replicate 4 zero128).set 2 (sec 65) := by
    rw [crash_one _ 2 _ (by rw [hl]; omega)]
    have : pickC 1 % ((noV (((2 : Nat) : Int)) ++ [sec 65] ++ [sec 66]).length + 1) = 1 := by simp [noV, pickC]
    rw [this, if_neg (by omega)]
    rfl
  rw [e5] at cC
  clear h5 e5
  go_wp2_with (fail)
  refine cC.mono ?_
  rintro e w6 ⟨rfl, h6⟩
  clear cC
  have hl6 : ((List.replicate 4 zero128).set 2 (sec 65)).length = 4 := by simp
  have cR := mb_read h6 2 (by rw [hl6]; omega) (by simp [noV])
  have e6 : lastOf (noV (((2 : Nat) : Int))) ((List.replicate 4 zero128).set 2 (sec 65))[2] = sec 65 := by
    show ((List.replicate 4 zero128).set 2 (sec 65))[2] = sec 65
    rw [List.getElem_set, if_pos rfl]
  rw [e6] at cR
  clear e6
  go_wp2_with (fail)
  refine cR.mono ?_
  rintro e w7 ⟨rfl, b7⟩
  have h7 := h6.after b7
  clear cR h6 b7
  go_wp2_with (fail)
  refine (c65 _).mono ?_
  rintro e w8 ⟨rfl, b8⟩
  have h8 := h7.after b8
  have cB := mb_bad h8 4 (sec 65) (.inl (by unfold hasN; rw [hl6]; decide))
  have cS := mb_size h8
  have cA := mb_alive h8
  rw [hl6] at cS
  have hfin := Lib.hid h8.b
  clear h7 h8 b8
  generalize sec 65 = s at *
  go_wp2_with (fail)
  refine cB.mono ?_
  rintro e w9 ⟨rfl, rfl⟩
  go_wp2_with (fail)
  refine cS.mono ?_
  rintro e w9 ⟨rfl, rfl⟩
  go_wp2_with (fail)
  refine cA.mono ?_
  rintro e w9 ⟨rfl, rfl⟩
  go_wp2_with (fail)
  go_ret
  exact ⟨rfl, hfin.out⟩
end Go.Proofs.Ytofhmdbilhdblaa

