/- pack's laws: readers that are bad, and what is asked of any. -/
import Derived.Test.YtkjpdpjogcifoaaDoorPackLaw2
namespace Go.Proofs.YtkjpdpjogcifoaaDoor
open Go.RowKit
set_option linter.unusedVariables false
set_option linter.unusedSimpArgs false

/-- A list of pairs of numbers as it lies. -/
structure Pairs (w : World) (a : Option Addr) (l : List (Int × Int)) : Prop where
  h : ∀ i, i < l.length → ∃ cb co, a = some ⟨cb, co, none⟩ ∧ cb < w.heap.size ∧ w.cell? ⟨cb, co + i * 2, none⟩ = some (.int .i64 (l.getD i (0, 0)).1) ∧ w.cell? ⟨cb, co + i * 2 + 1, none⟩ = some (.int .i64 (l.getD i (0, 0)).2)
def InR (x : Int) : Prop := -9223372036854775808 ≤ x ∧ x ≤ 9223372036854775807
set_option maxRecDepth 100000 in
set_option maxHeartbeats 4000000 in
theorem pbad_walk (s : ByteArray) (beyond : Int) (ca : Option Addr) (cc : Nat) (l : List (Int × Int)) (w : World) (hs : s.size ≤ 140737488351232) (rb : -9223372036854775808 ≤ beyond ∧ beyond ≤ 9223372036854775807) (hP : Pairs w ca l) (hx : ∀ i, i < l.length → InR (l.getD i (0, 0)).1 ∧ InR (l.getD i (0, 0)).2) (hl : l.length ≤ 140737488355328) :
    Calls Tryd.prog 6 #[.string s, .int .i64 beyond, .slice ca l.length cc] w fun e w' => e = .returned (.bool true) ∧ Below w.heap.size w w' := by
  obtain ⟨x, hxl, _, kx⟩ := pick_nat beyond 1000 rb.1 rb.2 (by decide) (by decide)
  have hok : okT s false ((s.size : Int) + 1 + (x : Int)) = false := by unfold okT; rw [decide_eq_false (by omega)]; rfl
  have hS : txtS s false ((s.size : Int) + 1 + (x : Int)) = ⟨#[]⟩ := by rw [txtS, hok]; rfl
  have hR : txtR s false ((s.size : Int) + 1 + (x : Int)) = s := by rw [txtR, hok]; rfl
  have cT := fun W b h => rdtext_any b s false ((s.size : Int) + 1 + (x : Int)) W h (by omega)
  rw [hS, hR, hok] at cT
  have cN := fun n W b h => rdnum_any b s true n W h (by omega)
  have hNo : ∀ n, okN s true n = false := fun n => rfl
  have cT2 := fun n W b h => rdtext_any b s true n W h (by omega)
  have cN' : ∀ n W b, RdAt W b s true → Calls Tryd.prog 16 #[.pointer (some ⟨b, 0, none⟩), .int .i64 n] W (Takes W b (.int .i64 0) s true) := cN
  have cT' : ∀ n W b, RdAt W b s true → Calls Tryd.prog 18 #[.pointer (some ⟨b, 0, none⟩), .int .i64 n] W (Takes W b (.string ⟨#[]⟩) s true) := cT2
  clear hS hR hok cN cT2 hNo
  go_enter Tryd.func6, Tryd.ntmps6
  go_wp2_with (fail)
  refine (pawake_any _).mono ?_
  rintro e w1 ⟨rfl, b1⟩
  go_wp2_with (fail)
  refine (new_any s _).mono ?_
  rintro e w2 ⟨rfl, hw2⟩
  obtain ⟨b, hb⟩ : ∃ b, w1.heap.size = b := ⟨_, rfl⟩
  have r2 : RdAt w2 b s false := by rw [hw2, ← hb]; exact RdAt.made _ _ _
  have b2 : Below b w1 w2 := by rw [hw2, ← hb]; exact (Below.refl _ _).alloc (Nat.le_refl _) _
  rw [hb]
  clear hw2
  have hbs := b2.size
  go_wp2_with (fail)
  refine (kx _).mono ?_
  rintro e wq ⟨rfl, rfl⟩
  go_wp2_with (fail)
  refine (cT _ _ r2).mono ?_
  rintro e w3 ⟨rfl, r3⟩
  have b3 := b2.trans (r3.below (B := b) (Nat.le_refl _) (by omega))
  have r3' : RdAt w3 b s true := r3.r
  clear r3 cT r2
  go_wp2_with (fail)
  go_loopw [9] (fun i wr => ∃ q : Nat, q ≤ l.length ∧ i = .int .i64 (q : Int) ∧ RdAt wr b s true ∧ Below b w1 wr) (fun i _ => l.length - (intOf i).toNat)
  case atStart => exact ⟨0, by omega, rfl, r3', b3⟩
  case round =>
    obtain ⟨q, hq, rfl, hr, hB⟩ := hrel
    by_cases hlt : q < l.length ∧ q < 100
    · obtain ⟨hl1, hl2⟩ := hlt
      have t1 : (q : Int) < (l.length : Int) := by omega
      have t2 : (q : Int) < 100 := by omega
      obtain ⟨cb, co, rfl, hcb, hc1, hc2⟩ := hP.h q hl1
      have hz := b1.size
      have hcq1 : ∀ W, Below b w1 W → W.cell? ⟨cb, co + q * 2, none⟩ = some (.int .i64 (l.getD q (0, 0)).1) := fun W hW => by
        rw [hW.cell (p := ⟨cb, co + q * 2, none⟩) (by show cb < b; omega), b1.cell (p := ⟨cb, co + q * 2, none⟩) hcb]; exact hc1
      have hcq2 : ∀ W, Below b w1 W → W.cell? ⟨cb, co + q * 2 + 1, none⟩ = some (.int .i64 (l.getD q (0, 0)).2) := fun W hW => by
        rw [hW.cell (p := ⟨cb, co + q * 2 + 1, none⟩) (by show cb < b; omega), b1.cell (p := ⟨cb, co + q * 2 + 1, none⟩) hcb]; exact hc2
      obtain ⟨⟨m1, m2⟩, ⟨m3, m4⟩⟩ := hx q hl1
      generalize (l.getD q (0, 0)).1 = what at *
      generalize (l.getD q (0, 0)).2 = num at *
      have d1 := hcq1 wr hB
      have d2 := hcq2 wr hB
      clear hc1 hc2
      have hbw : b ≤ wr.heap.size := by have := hB.size; omega
      by_cases hev : what.tmod 2 = 0
      · have t3 : (what.tmod 2 == 0) = true := by rw [beq_iff_eq]; exact hev
        have t4 : (what.tmod 2 != 0) = false := by rw [bne_eq_false_iff_eq]; exact hev
        clear hev
        go_wp2_with (fail)
        refine (cN' num wr b hr).mono ?_
        rintro e w4 ⟨rfl, r4⟩
        have hB4 := hB.trans (r4.below (B := b) (Nat.le_refl _) hbw)
        have r4' := r4.r
        have hB4s : b ≤ w4.heap.size := by have := hB4.size; omega
        have e1 := hcq1 w4 hB4
        have e2 := hcq2 w4 hB4
        clear r4
        go_wp2_with (fail)
        refine (bad_any b s true w4 r4').mono ?_
        rintro e wq ⟨rfl, rfl⟩
        go_wp2_with (fail)
        refine (left_any b s true w4 r4').mono ?_
        rintro e wq ⟨rfl, rfl⟩
        go_wp2_with (fail)
        refine (ends_any b s true w4 r4' (by omega)).mono ?_
        intro e w5 h5
        obtain ⟨rfl, b5, e5⟩ := h5.to
        have r5 := r4'.heap e5
        have hB5 : Below b w1 w5 := hB4.trans (b5.mono hB4s)
        clear e5 h5
        go_wp2_with (fail)
        go_roundw
        case rel => exact ⟨q + 1, by omega, by go_num, r5, hB5⟩
        case measure => simp [intOf]; omega
      · have t3 : (what.tmod 2 == 0) = false := by rw [beq_eq_false_iff_ne]; exact hev
        have t4 : (what.tmod 2 != 0) = true := by rw [bne_iff_ne]; exact hev
        clear hev
        go_wp2_with (fail)
        refine (cT' num wr b hr).mono ?_
        rintro e w4 ⟨rfl, r4⟩
        have hB4 := hB.trans (r4.below (B := b) (Nat.le_refl _) hbw)
        have r4' := r4.r
        have hB4s : b ≤ w4.heap.size := by have := hB4.size; omega
        have e1 := hcq1 w4 hB4
        have e2 := hcq2 w4 hB4
        clear r4
        go_wp2_with (fail)
        refine (bad_any b s true w4 r4').mono ?_
        rintro e wq ⟨rfl, rfl⟩
        go_wp2_with (fail)
        refine (left_any b s true w4 r4').mono ?_
        rintro e wq ⟨rfl, rfl⟩
        go_wp2_with (fail)
        refine (ends_any b s true w4 r4' (by omega)).mono ?_
        intro e w5 h5
        obtain ⟨rfl, b5, e5⟩ := h5.to
        have r5 := r4'.heap e5
        have hB5 : Below b w1 w5 := hB4.trans (b5.mono hB4s)
        clear e5 h5
        go_wp2_with (fail)
        go_roundw
        case rel => exact ⟨q + 1, by omega, by go_num, r5, hB5⟩
        case measure => simp [intOf]; omega
    · have hA : q < l.length → ¬ q < 100 := fun h1 h2 => hlt ⟨h1, h2⟩
      clear hlt
      by_cases h1 : q < l.length
      · have t1 : (q : Int) < (l.length : Int) := by omega
        have t2 : decide ((q : Int) < 100) = false := by rw [decide_eq_false_iff_not]; have := hA h1; omega
        clear hA
        go_wp2_with (fail)
        refine (bad_any b s true wr hr).mono ?_
        rintro e wq ⟨rfl, rfl⟩
        go_wp2_with (fail)
        go_ret
        exact ⟨rfl, below_p b1 (by rw [hb]; exact hB)⟩
      · have t1 : decide (q < l.length) = false := by rw [decide_eq_false_iff_not]; exact h1
        clear hA
        go_wp2_with (fail)
        refine (bad_any b s true wr hr).mono ?_
        rintro e wq ⟨rfl, rfl⟩
        go_wp2_with (fail)
        go_ret
        exact ⟨rfl, below_p b1 (by rw [hb]; exact hB)⟩
end Go.Proofs.YtkjpdpjogcifoaaDoor
