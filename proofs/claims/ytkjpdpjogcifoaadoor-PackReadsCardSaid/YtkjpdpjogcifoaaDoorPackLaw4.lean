/- pack's laws: a reader takes any text up as the document says. -/
import Derived.Test.YtkjpdpjogcifoaaDoorPackLaw3
namespace Go.Proofs.YtkjpdpjogcifoaaDoor
open Go.RowKit
set_option linter.unusedVariables false
set_option linter.unusedSimpArgs false

theorem numR_size (s : ByteArray) (bad : Bool) (n : Int) : (numR s bad n).size ≤ s.size := by
  rw [numR]; split
  · rw [ByteArray.size_extract]; omega
  · exact Nat.le_refl _
theorem txtR_size (s : ByteArray) (bad : Bool) (n : Int) : (txtR s bad n).size ≤ s.size := by
  rw [txtR]; split
  · rw [ByteArray.size_extract]; omega
  · exact Nat.le_refl _
set_option maxRecDepth 100000 in
set_option maxHeartbeats 8000000 in
theorem preads_walk (s : ByteArray) (ca : Option Addr) (cc : Nat) (l : List (Int × Int)) (w : World) (hs : s.size ≤ 140737488351232) (hP : Pairs w ca l) (hx : ∀ i, i < l.length → InR (l.getD i (0, 0)).1 ∧ InR (l.getD i (0, 0)).2) (hl : l.length ≤ 140737488355328) :
    Calls Tryd.prog 4 #[.string s, .slice ca l.length cc] w fun e w' => e = .returned (.bool true) ∧ Below w.heap.size w w' := by
  go_enter Tryd.func4, Tryd.ntmps4
  go_wp2_with (fail)
  refine (pawake_any _).mono ?_
  rintro e w1 ⟨rfl, b1⟩
  go_wp2_with (fail)
  refine (new_any s _).mono ?_
  rintro e w2 ⟨rfl, hw2⟩
  obtain ⟨ba, hb⟩ : ∃ b, w1.heap.size = b := ⟨_, rfl⟩
  have r2 : RdAt w2 ba s false := by rw [hw2, ← hb]; exact RdAt.made _ _ _
  have b2 : Below ba w1 w2 := by rw [hw2, ← hb]; exact (Below.refl _ _).alloc (Nat.le_refl _) _
  rw [hb]
  clear hw2
  go_wp2_with (fail)
  refine (rnew_any s _).mono ?_
  rintro e w3 ⟨rfl, hw3⟩
  obtain ⟨bb, hbb⟩ : ∃ b, w2.heap.size = b := ⟨_, rfl⟩
  have s3 : RdAt w3 bb s false := by rw [hw3, ← hbb]; exact RdAt.made _ _ _
  have b3' : Below bb w2 w3 := by rw [hw3, ← hbb]; exact (Below.refl _ _).alloc (Nat.le_refl _) _
  have hlt2 := r2.lt
  have hab : ba < bb := by omega
  have r3 : RdAt w3 ba s false := r2.below b3' hab
  have b3 : Below ba w1 w3 := b2.trans (b3'.mono (by omega))
  rw [hbb]
  clear hw3 r2 b2 b3'
  have hne : bb ≠ ba := by omega
  have hne2 : ba ≠ bb := by omega
  go_wp2_with (fail)
  go_loopw [8] (fun i wr => ∃ (q : Nat) (t : ByteArray) (bad : Bool), q ≤ l.length ∧ i = .int .i64 (q : Int) ∧ t.size ≤ s.size ∧ RdAt wr ba t bad ∧ RdAt wr bb t bad ∧ Below ba w1 wr) (fun i _ => l.length - (intOf i).toNat)
  case atStart => exact ⟨0, s, false, by omega, rfl, Nat.le_refl _, r3, s3, b3⟩
  case round =>
    obtain ⟨q, t, bad, hq, rfl, hts, hra, hrb, hB⟩ := hrel
    have hbw : ba ≤ wr.heap.size := by have := hB.size; omega
    by_cases hlt : q < l.length ∧ q < 300
    · obtain ⟨hl1, hl2⟩ := hlt
      have t1 : (q : Int) < (l.length : Int) := by omega
      have t2 : (q : Int) < 300 := by omega
      obtain ⟨cb, co, rfl, hcb, hc1, hc2⟩ := hP.h q hl1
      have hz := b1.size
      have hcq1 : ∀ W, Below ba w1 W → W.cell? ⟨cb, co + q * 2, none⟩ = some (.int .i64 (l.getD q (0, 0)).1) := fun W hW => by
        rw [hW.cell (p := ⟨cb, co + q * 2, none⟩) (by show cb < ba; omega), b1.cell (p := ⟨cb, co + q * 2, none⟩) hcb]; exact hc1
      have hcq2 : ∀ W, Below ba w1 W → W.cell? ⟨cb, co + q * 2 + 1, none⟩ = some (.int .i64 (l.getD q (0, 0)).2) := fun W hW => by
        rw [hW.cell (p := ⟨cb, co + q * 2 + 1, none⟩) (by show cb < ba; omega), b1.cell (p := ⟨cb, co + q * 2 + 1, none⟩) hcb]; exact hc2
      obtain ⟨⟨m1, m2⟩, ⟨m3, m4⟩⟩ := hx q hl1
      generalize (l.getD q (0, 0)).1 = what at *
      generalize (l.getD q (0, 0)).2 = num at *
      have d1 := hcq1 wr hB
      have d2 := hcq2 wr hB
      have hBD : Below ba w1 wr.drew := hB.trans ⟨rfl, rfl, rfl, Nat.le_refl _, fun _ _ => rfl⟩
      have d2' := hcq2 wr.drew hBD
      have hDa : RdAt wr.drew ba t bad := hra.heap rfl
      have hDb : RdAt wr.drew bb t bad := hrb.heap rfl
      have hbd : ba ≤ wr.drew.heap.size := hbw
      clear hc1 hc2
      by_cases hev : what.tmod 2 = 0
      · have t3 : (what.tmod 2 == 0) = true := by rw [beq_iff_eq]; exact hev
        have cA := rdnum_any ba t bad num wr.drew hDa (by omega)
        have cB := fun W h => rnumr_any bb t bad num W h
        have ht2 := numR_size t bad num
        clear hev
        generalize numR t bad num = t' at *
        generalize (!okN t bad num) = bad' at *
        generalize numV t bad num = v at *
        go_wp2_with (fail)
        go_region_with (first | (go_at_call 16; refine cA.mono ?_; rintro e w4 ⟨rfl, r4⟩; have hB4 := hBD.trans (r4.below (B := ba) (Nat.le_refl _) hbd); have e2 := hcq2 w4 hB4; have ra4 := r4.r; have rb4 := hDb.other r4 hne; have hb4 : ba ≤ w4.heap.size := Nat.le_trans hbd r4.size) | (go_at_call 17; refine (cB _ rb4).mono ?_; rintro e w5 ⟨rfl, r5⟩; have hB5 := hB4.trans (r5.below (B := ba) (Nat.le_of_lt hab) hb4); have e3 := hcq2 w5 hB5; have rb5 := r5.r; have ra5 := ra4.other r5 hne2; have hb5 : ba ≤ w5.heap.size := Nat.le_trans hb4 r5.size))
        all_goals
          clear r4 r5
          go_wp2_with (fail)
          refine (left_any ba t' bad' w5 ra5).mono ?_
          rintro e wq ⟨rfl, rfl⟩
          go_wp2_with (fail)
          refine (rleft_any bb t' bad' w5 rb5).mono ?_
          rintro e wq ⟨rfl, rfl⟩
          go_wp2_with (fail)
          refine (bad_any ba t' bad' w5 ra5).mono ?_
          rintro e wq ⟨rfl, rfl⟩
          go_wp2_with (fail)
          refine (rbad_any bb t' bad' w5 rb5).mono ?_
          rintro e wq ⟨rfl, rfl⟩
          go_wp2_with (fail)
          refine (ends_any ba t' bad' w5 ra5 (by omega)).mono ?_
          intro e w6 h6
          obtain ⟨rfl, b6, e6⟩ := h6.to
          have ra6 := ra5.heap e6
          have rb6 := rb5.heap e6
          have hB6 : Below ba w1 w6 := hB5.trans (b6.mono hb5)
          clear e6 h6
          go_wp2_with (fail)
          refine (rends_any bb t' bad' w6 rb6 (by omega)).mono ?_
          rintro e wq ⟨rfl, rfl⟩
          go_wp2_with (fail)
          go_roundw
          case rel => exact ⟨q + 1, t', bad', by omega, by go_num, by omega, ra6, rb6, hB6⟩
          case measure => simp [intOf]; omega
      · have t3 : (what.tmod 2 == 0) = false := by rw [beq_eq_false_iff_ne]; exact hev
        have cA := rdtext_any ba t bad num wr.drew hDa (by omega)
        have cB := fun W h => rtext_any bb t bad num W h
        have ht2 := txtR_size t bad num
        clear hev
        generalize txtR t bad num = t' at *
        generalize (!okT t bad num) = bad' at *
        generalize txtS t bad num = v at *
        go_wp2_with (fail)
        go_region_with (first | (go_at_call 18; refine cA.mono ?_; rintro e w4 ⟨rfl, r4⟩; have hB4 := hBD.trans (r4.below (B := ba) (Nat.le_refl _) hbd); have e2 := hcq2 w4 hB4; have ra4 := r4.r; have rb4 := hDb.other r4 hne; have hb4 : ba ≤ w4.heap.size := Nat.le_trans hbd r4.size) | (go_at_call 19; refine (cB _ rb4).mono ?_; rintro e w5 ⟨rfl, r5⟩; have hB5 := hB4.trans (r5.below (B := ba) (Nat.le_of_lt hab) hb4); have e3 := hcq2 w5 hB5; have rb5 := r5.r; have ra5 := ra4.other r5 hne2; have hb5 : ba ≤ w5.heap.size := Nat.le_trans hb4 r5.size))
        all_goals
          clear r4 r5
          go_wp2_with (fail)
          refine (left_any ba t' bad' w5 ra5).mono ?_
          rintro e wq ⟨rfl, rfl⟩
          go_wp2_with (fail)
          refine (rleft_any bb t' bad' w5 rb5).mono ?_
          rintro e wq ⟨rfl, rfl⟩
          go_wp2_with (fail)
          refine (bad_any ba t' bad' w5 ra5).mono ?_
          rintro e wq ⟨rfl, rfl⟩
          go_wp2_with (fail)
          refine (rbad_any bb t' bad' w5 rb5).mono ?_
          rintro e wq ⟨rfl, rfl⟩
          go_wp2_with (fail)
          refine (ends_any ba t' bad' w5 ra5 (by omega)).mono ?_
          intro e w6 h6
          obtain ⟨rfl, b6, e6⟩ := h6.to
          have ra6 := ra5.heap e6
          have rb6 := rb5.heap e6
          have hB6 : Below ba w1 w6 := hB5.trans (b6.mono hb5)
          clear e6 h6
          go_wp2_with (fail)
          refine (rends_any bb t' bad' w6 rb6 (by omega)).mono ?_
          rintro e wq ⟨rfl, rfl⟩
          go_wp2_with (fail)
          go_roundw
          case rel => exact ⟨q + 1, t', bad', by omega, by go_num, by omega, ra6, rb6, hB6⟩
          case measure => simp [intOf]; omega
    · have hA : q < l.length → ¬ q < 300 := fun h1 h2 => hlt ⟨h1, h2⟩
      clear hlt
      by_cases h1 : q < l.length
      · have t1 : (q : Int) < (l.length : Int) := by omega
        have t2 : decide ((q : Int) < 300) = false := by rw [decide_eq_false_iff_not]; have := hA h1; omega
        clear hA
        go_wp2_with (fail)
        refine (ends_any ba t bad wr hra (by omega)).mono ?_
        intro e w6 h6
        obtain ⟨rfl, b6, e6⟩ := h6.to
        have rb6 := hrb.heap e6
        clear e6 h6
        go_wp2_with (fail)
        refine (rends_any bb t bad w6 rb6 (by omega)).mono ?_
        rintro e wq ⟨rfl, rfl⟩
        go_wp2_with (fail)
        go_ret
        exact ⟨rfl, below_p (below_p b1 (by rw [hb]; exact hB)) b6⟩
      · have t1 : decide (q < l.length) = false := by rw [decide_eq_false_iff_not]; exact h1
        clear hA
        go_wp2_with (fail)
        refine (ends_any ba t bad wr hra (by omega)).mono ?_
        intro e w6 h6
        obtain ⟨rfl, b6, e6⟩ := h6.to
        have rb6 := hrb.heap e6
        clear e6 h6
        go_wp2_with (fail)
        refine (rends_any bb t bad w6 rb6 (by omega)).mono ?_
        rintro e wq ⟨rfl, rfl⟩
        go_wp2_with (fail)
        go_ret
        exact ⟨rfl, below_p (below_p b1 (by rw [hb]; exact hB)) b6⟩
end Go.Proofs.YtkjpdpjogcifoaaDoor
