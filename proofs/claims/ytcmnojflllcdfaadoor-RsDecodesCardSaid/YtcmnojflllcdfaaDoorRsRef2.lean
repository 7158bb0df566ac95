/- rs: the document's own Update. -/
import Derived.Test.YtcmnojflllcdfaaDoorRsRef
namespace Go.Proofs.YtcmnojflllcdfaaDoor
open Go.RowKit
set_option linter.unusedVariables false
set_option linter.unusedSimpArgs false

/-- A list written out: what the call owns. -/
theorem Own.lit (w : World) (E : TypeId) (xs : List Value) (hn : xs.length ≤ 1000) : Own (w.alloc (.cells xs.toArray E)) w.heap.size E (.slice (some ⟨w.heap.size, 0, none⟩) xs.length xs.length) xs :=
  ⟨World.ownsRow_lit (e := E) (size := 1) w xs.toArray xs.length (Nat.le_refl _) (by unfold maxLen; omega) (by simp)⟩
theorem alikeL_iff (x : ByteArray) (l : List ByteArray) : alikeL (x :: l) = true ↔ (1 ≤ x.size ∧ x.size ≤ 4096) ∧ ∀ s ∈ l, s.size = x.size := by
  simp only [alikeL, List.all_cons, List.getD_cons_zero, Bool.and_eq_true, beq_self_eq_true, true_and, decide_eq_true_eq, List.all_eq_true, beq_iff_eq]
  constructor
  · rintro ⟨h1, h2⟩; exact ⟨h1, fun s hs => (h2 s hs).1⟩
  · rintro ⟨h1, h2⟩; exact ⟨h1, fun s hs => ⟨h2 s hs, by rw [h2 s hs]; exact h1⟩⟩
theorem alike_upd {parity : List ByteArray} (was now : ByteArray) (h : 1 ≤ parity.length) : alikeL ([was, now] ++ parity) = (alikeL parity && alikeL [parity.getD 0 ⟨#[]⟩, was, now]) := by
  match parity, h with
  | p :: ps, _ =>
    show alikeL (was :: now :: p :: ps) = (alikeL (p :: ps) && alikeL [p, was, now])
    rw [Bool.eq_iff_iff, Bool.and_eq_true, alikeL_iff, alikeL_iff, alikeL_iff]
    constructor
    · rintro ⟨a, b⟩
      have hn := b now (by simp)
      have hp := b p (by simp)
      refine ⟨⟨by omega, fun s hs => by have := b s (by simp [hs]); omega⟩, by omega, fun s hs => ?_⟩
      simp only [List.mem_cons, List.not_mem_nil, or_false] at hs
      rcases hs with e | e <;> rw [e] <;> omega
    · rintro ⟨⟨a, b⟩, c, d⟩
      have hw := d was (by simp)
      have hn := d now (by simp)
      refine ⟨by omega, fun s hs => ?_⟩
      simp only [List.mem_cons] at hs
      rcases hs with e | e | e
      · rw [e]; omega
      · rw [e]; omega
      · have := b s e; omega
set_option maxRecDepth 100000 in
set_option maxHeartbeats 4000000 in
theorem rupdate_any (k i : Int) (vp : Value) (parity : List ByteArray) (was now : ByteArray) (w : World) (hP : Reads w vp (tx parity)) (fp : Fits parity) (fw : was.size ≤ 140737488351232) (fn : now.size ≤ 140737488351232) (h1 : -9223372036854775808 ≤ k) (h2 : k ≤ 9223372036854775807) (h3 : -9223372036854775808 ≤ i) (h4 : i ≤ 9223372036854775807) :
    Calls Tryd.prog 17 #[.int .i64 k, .int .i64 i, vp, .string was, .string now] w (GivesL w (updL k i parity was now) (updE k i parity was now)) := by
  have fpn := fp.n
  have lp := fun W => hP.len_run (P := Tryd.prog) Tryd.underlying22 3 W
  rw [List.length_map] at lp
  by_cases c0 : k < 1
  · have t0 : decide (k < 1) = true := by rw [decide_eq_true_eq]; omega
    have hz : Hid (updB k i parity was now = false) := Lib.hid (by
      unfold updB
      rw [fits8_not (n := k) (by omega)]; rfl)
    clear c0
    go_enter Tryd.func17, Tryd.ntmps17
    go_wp2_with (fail)
    go_ret2
    exact upd_bad w k i parity was now hz _ (Below.refl _ _)
  · skip
    by_cases c1 : 8 < k
    · have t0 : decide (k < 1) = false := by rw [decide_eq_false_iff_not]; omega
      have t1 : decide (8 < k) = true := by rw [decide_eq_true_eq]; omega
      have hz : Hid (updB k i parity was now = false) := Lib.hid (by
        unfold updB
        rw [fits8_not (n := k) (by omega)]; rfl)
      clear c0 c1
      go_enter Tryd.func17, Tryd.ntmps17
      go_wp2_with (fail)
      go_ret2
      exact upd_bad w k i parity was now hz _ (Below.refl _ _)
    · skip
      by_cases c2 : i < 0
      · have t0 : decide (k < 1) = false := by rw [decide_eq_false_iff_not]; omega
        have t1 : decide (8 < k) = false := by rw [decide_eq_false_iff_not]; omega
        have t2 : decide (i < 0) = true := by rw [decide_eq_true_eq]; omega
        have hz : Hid (updB k i parity was now = false) := Lib.hid (by
          unfold updB
          rw [decide_eq_false (show ¬ 0 ≤ i by omega), Bool.false_and, Bool.and_false])
        clear c0 c1 c2
        go_enter Tryd.func17, Tryd.ntmps17
        go_wp2_with (fail)
        go_ret2
        exact upd_bad w k i parity was now hz _ (Below.refl _ _)
      · skip
        by_cases c3 : k ≤ i
        · have t0 : decide (k < 1) = false := by rw [decide_eq_false_iff_not]; omega
          have t1 : decide (8 < k) = false := by rw [decide_eq_false_iff_not]; omega
          have t2 : decide (i < 0) = false := by rw [decide_eq_false_iff_not]; omega
          have t3 : decide (k ≤ i) = true := by rw [decide_eq_true_eq]; omega
          have hz : Hid (updB k i parity was now = false) := Lib.hid (by
            unfold updB
            rw [decide_eq_false (show ¬ i < k by omega), Bool.false_and, Bool.and_false, Bool.and_false])
          clear c0 c1 c2 c3
          go_enter Tryd.func17, Tryd.ntmps17
          go_wp2_with (fail)
          go_ret2
          exact upd_bad w k i parity was now hz _ (Below.refl _ _)
        · skip
          by_cases c4 : (parity.length : Int) < 1
          · have t0 : decide (k < 1) = false := by rw [decide_eq_false_iff_not]; omega
            have t1 : decide (8 < k) = false := by rw [decide_eq_false_iff_not]; omega
            have t2 : decide (i < 0) = false := by rw [decide_eq_false_iff_not]; omega
            have t3 : decide (k ≤ i) = false := by rw [decide_eq_false_iff_not]; omega
            have t4 : decide ((parity.length : Int) < 1) = true := by rw [decide_eq_true_eq]; omega
            have hz : Hid (updB k i parity was now = false) := Lib.hid (by
              unfold updB
              rw [fits8_not (n := (parity.length : Int)) (by omega), Bool.false_and, Bool.and_false, Bool.and_false, Bool.and_false])
            clear c0 c1 c2 c3 c4
            go_enter Tryd.func17, Tryd.ntmps17
            go_wp2_with (fail)
            go_ret2
            exact upd_bad w k i parity was now hz _ (Below.refl _ _)
          · skip
            by_cases c5 : 8 < (parity.length : Int)
            · have t0 : decide (k < 1) = false := by rw [decide_eq_false_iff_not]; omega
              have t1 : decide (8 < k) = false := by rw [decide_eq_false_iff_not]; omega
              have t2 : decide (i < 0) = false := by rw [decide_eq_false_iff_not]; omega
              have t3 : decide (k ≤ i) = false := by rw [decide_eq_false_iff_not]; omega
              have t4 : decide ((parity.length : Int) < 1) = false := by rw [decide_eq_false_iff_not]; omega
              have t5 : decide (8 < (parity.length : Int)) = true := by rw [decide_eq_true_eq]; omega
              have hz : Hid (updB k i parity was now = false) := Lib.hid (by
                unfold updB
                rw [fits8_not (n := (parity.length : Int)) (by omega), Bool.false_and, Bool.and_false, Bool.and_false, Bool.and_false])
              clear c0 c1 c2 c3 c4 c5
              go_enter Tryd.func17, Tryd.ntmps17
              go_wp2_with (fail)
              go_ret2
              exact upd_bad w k i parity was now hz _ (Below.refl _ _)
            · skip
              have e0 : decide (k < 1) = false := by rw [decide_eq_false_iff_not]; omega
              have e1 : decide (8 < k) = false := by rw [decide_eq_false_iff_not]; omega
              have e2 : decide (i < 0) = false := by rw [decide_eq_false_iff_not]; omega
              have e4 : decide ((parity.length : Int) < 1) = false := by rw [decide_eq_false_iff_not]; omega
              have e5 : decide (8 < (parity.length : Int)) = false := by rw [decide_eq_false_iff_not]; omega
              obtain ⟨K, rfl⟩ := Int.eq_ofNat_of_zero_le (show 0 ≤ k by omega)
              obtain ⟨I, rfl⟩ := Int.eq_ofNat_of_zero_le (show 0 ≤ i by omega)
              have e3 : decide (K ≤ I) = false := by rw [decide_eq_false_iff_not]; omega
              have hIK : I < K := by omega
              have hK8 : K ≤ 8 := by omega
              have hp8 : parity.length ≤ 8 := by omega
              have hp1 : 1 ≤ parity.length := by omega
              obtain ⟨i0, hi, hz0, hz1, hz2⟩ := info_parts Tryd.infoS
              have hal := alike_upd was now hp1
              have hB : updB (K : Int) (I : Int) parity was now = alikeL ([was, now] ++ parity) := by
                unfold updB
                rw [hal, (fits8_iff (K : Int)).2 (by omega), (fits8_iff (parity.length : Int)).2 (by omega), decide_eq_true (show (0 : Int) ≤ (I : Int) by omega), decide_eq_true (show (I : Int) < (K : Int) by omega)]
                rfl
              obtain ⟨vA, wA, hap, pA, bA, _⟩ := Own.pushAll (P := Tryd.prog) (T := 22) Tryd.underlying22 hi hz0 hz1 hz2 rfl (Own.lit w 9 (tx [was, now]) (by simp)) (hP.below ((Below.refl w.heap.size w).alloc (Nat.le_refl _) _)) (tx_each parity) (by simp) (by simp only [tx, List.length_map, List.length_cons, List.length_nil]; omega) (by simp only [tx, List.length_map, List.length_cons, List.length_nil]; omega)
              rw [← tx_app] at pA
              have bA' : Below w.heap.size w wA := ((Below.refl w.heap.size w).alloc (Nat.le_refl _) _).trans bA
              have fA : Fits ([was, now] ++ parity) := ⟨by simp; omega, fun j hj => by
                match j, hj with
                | 0, _ => show was.size ≤ _; omega
                | 1, _ => show now.size ≤ _; omega
                | j + 2, hj => exact fp.m j (by simp at hj; omega)⟩
              have cs := fun W (hW : Below wA.heap.size wA W) => rshards_any vA ([was, now] ++ parity) W (pA.reads.below hW) fA
              have hBz := Lib.hid hB
              clear c0 c1 c2 c3 c4 c5 hal fA
              cases ha : alikeL ([was, now] ++ parity) with
              | false =>
                have hz : Hid (updB (K : Int) (I : Int) parity was now = false) := Lib.hid (by rw [hB]; exact ha)
                rw [ha] at cs
                clear hB ha
                go_enter Tryd.func17, Tryd.ntmps17
                go_wp2_with (at_builtin; refine wpList_append_run hap _ _ rfl rfl rfl rfl rfl ?_)
                refine (cs _ (Below.refl _ _)).mono ?_
                rintro e w1 ⟨rfl, b1⟩
                go_wp2_with (fail)
                go_ret2
                exact upd_bad w K I parity was now hz _ (below_c bA' b1)
              | true =>
                rw [ha] at cs
                have hz : updB (K : Int) (I : Int) parity was now = true := by rw [hB]; exact ha
                have hu1 : Hid (updL (K : Int) (I : Int) parity was now = firstL (updF K I parity was now) parity.length) := Lib.hid (by
                  rw [updL, if_pos hz, show ((K : Int)).toNat = K by omega, show ((I : Int)).toNat = I by omega]; rfl)
                have hu2 : Hid (updE (K : Int) (I : Int) parity was now = 0) := Lib.hid (by rw [updE, if_pos hz])
                obtain ⟨y1, y2⟩ := cy_nat (k := K) (m := parity.length) (by omega) (by omega) (by omega) (by omega)
                have cc := fun W => rcauchy_any (K : Int) (parity.length : Int) W
                rw [y1, y2] at cc
                have rC := mkM_rect (cyEl parity.length) parity.length K
                have cd := fun W => rmuladd_nat was now 1 W (by decide) (by omega) (by omega)
                have cd' : ∀ W, Calls Tryd.prog 23 #[.string was, .int .u8 1, .string now] W fun e w' => e = .returned (.string (mulAdd was 1 now)) ∧ Below W.heap.size W w' := cd
                have hds : (mulAdd was 1 now).size ≤ 140737488351232 := by rw [mulAdd_size]; exact fw
                have hUF : Hid (∀ a, updF K I parity was now a = mulAdd (parity.getD a ⟨#[]⟩) (bt ((mkM (cyEl parity.length) parity.length K).getD a ⟨#[]⟩) I) (mulAdd was 1 now)) := Lib.hid (fun a => rfl)
                have hpm := Lib.hid (fun a (h : a < parity.length) => (alike_facts (l := parity) (by rw [hB] at hz; rw [alike_upd was now hp1, Bool.and_eq_true] at hz; exact hz.1) a h).2.2)
                have lC := Lib.hid rC.l
                have sC := Lib.hid rC.s
                generalize updF K I parity was now = uf at *
                generalize mulAdd was 1 now = d at *
                generalize mkM (cyEl parity.length) parity.length K = cy at *
                clear hB ha y1 y2 rC hz cd
                go_enter Tryd.func17, Tryd.ntmps17
                go_wp2_with (at_builtin; refine wpList_append_run hap _ _ rfl rfl rfl rfl rfl ?_)
                refine (cs _ (Below.refl _ _)).mono ?_
                rintro e w1 ⟨rfl, b1⟩
                go_wp2_with (fail)
                refine (cc _).mono ?_
                rintro e w2 ⟨v2, rfl, o2, b2⟩
                go_wp2_with (fail)
                refine (cd' _).mono ?_
                rintro e w3 ⟨rfl, b3⟩
                have r3 := o2.reads.below b3
                have hB0 : Below w.heap.size w w3 := below_c (below_c (below_c bA' b1) b2) b3
                have hP3 := hP.below hB0
                rcases hP3.srow with ⟨_, e⟩ | ⟨bp, op, capp, rfl, hSp⟩
                · rw [e] at hp1; simp at hp1
                rcases r3.srow with ⟨_, e⟩ | ⟨bc, oc, capc, rfl, hSc⟩
                · have := lC.out; rw [e] at this; simp at this; omega
                go_wp2_with (fail)
                go_loopw [16, 17] (fun u i wr => ∃ q : Nat, q ≤ parity.length ∧ i = .int .i64 (q : Int) ∧ Own wr w3.heap.size 9 u (tx (firstL uf q)) ∧ Below w3.heap.size w3 wr) (fun _ i _ => parity.length - (intOf i).toNat)
                case atStart => exact ⟨0, by omega, rfl, Own.nil _ _ _, Below.refl _ _⟩
                case round =>
                  obtain ⟨q, hq, rfl, hown, hbel⟩ := hrel
                  obtain ⟨u, rfl⟩ : ∃ v, v = u16 := ⟨_, rfl⟩
                  by_cases hlt : q < parity.length
                  · have b1 : (q : Int) < (parity.length : Int) := by omega
                    have hca := (hSp.below hbel).cell q hlt
                    have hcb := (hSc.below hbel).cell q (by rw [lC.out]; exact hlt)
                    have d2 : (q : Int) < (cy.length : Int) := by have := lC.out; omega
                    have hnx := Lib.hid (firstL_succ uf q)
                    have hfl := firstL_length uf q
                    have hs1 := hpm.out q hlt
                    have hs2 := sC.out q hlt
                    have hrq := Lib.hid (hUF.out q)
                    have hqf : I < (cy.getD q ⟨#[]⟩).size := by omega
                    have hma := fun W => rmuladd_nat (parity.getD q ⟨#[]⟩) d (bt (cy.getD q ⟨#[]⟩) I) W (bt_lt _ _) (by omega) (by omega)
                    rw [show ((bt (cy.getD q ⟨#[]⟩) I : Nat) : Int) = (((cy.getD q ⟨#[]⟩)[I].toNat : Nat) : Int) by rw [bt_get hqf]] at hma
                    have d3 : (I : Int) < ((cy.getD q ⟨#[]⟩).size : Int) := by omega
                    generalize mulAdd (parity.getD q ⟨#[]⟩) (bt (cy.getD q ⟨#[]⟩) I) d = row at *
                    generalize cy.getD q ⟨#[]⟩ = cq at *
                    generalize parity.getD q ⟨#[]⟩ = pq at *
                    clear hs1 hs2
                    go_wp2_with (fail)
                    go_region_law (first | (refine step_append_run hap _ _ rfl rfl rfl rfl rfl ?_) | (go_simp; go_at_call 23; refine (hma _).mono ?_; rintro e w7 ⟨rfl, b7⟩; have b7 := drew_c b7; have hb7 := hbel.trans (b7.mono hbel.size); obtain ⟨v', w', hap, hown4, hb4⟩ := Own.push (P := Tryd.prog) (T := 22) Tryd.underlying22 hi hz0 hz1 hz2 rfl (hown.after b7) (.string row) rfl hb7.size (by rw [List.length_map, hfl]; omega) (by rw [List.length_map, hfl]; omega)))
                    all_goals
                      go_wp2_with (fail)
                      go_roundw
                      case rel => exact ⟨q + 1, by omega, by go_num, by rw [hnx.out, hrq.out]; exact hown4, hb7.trans hb4⟩
                      case measure => simp [intOf]; omega
                  · have e : q = parity.length := by omega
                    subst e
                    go_wp2_with (fail)
                    go_ret2
                    exact ⟨u, by rw [hu2.out]; rfl, by rw [hu1.out]; exact hown.mono hB0.size, below_c hB0 hbel⟩
end Go.Proofs.YtcmnojflllcdfaaDoor
