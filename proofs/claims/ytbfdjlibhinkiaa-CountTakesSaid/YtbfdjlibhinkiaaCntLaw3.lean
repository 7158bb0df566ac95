/- count's laws: Of undoes Lay. -/
import Derived.Test.YtbfdjlibhinkiaaCntOf
namespace Go.Proofs.Ytbfdjlibhinkiaa
open Go.RowKit
set_option linter.unusedVariables false
set_option linter.unusedSimpArgs false

theorem byteN_lay {n : Nat} {C : Nat → Nat} (hS : Small n C) (a j : Nat) (hj : j < 120) : byteN (layS C a) j = C (a + j) := by
  have hl : (layS C a).size = 120 := by rw [layS, lineOf_size, bytesC_len]
  have hd : j < (layS C a).size := by omega
  unfold byteN
  rw [dif_pos hd]
  have e : (layS C a)[j] = UInt8.ofNat (C (a + j)) := by
    show (lineOf (bytesC C a)).data[j] = _
    simp [lineOf, bytesC]
  have := hS.c (a + j)
  rw [e]; simp; omega
theorem ofK_lay {n : Nat} {C : Nat → Nat} (hS : Small n C) (h3 : ∀ i, i < 3 → C i = 1) : ofK (layS C 0) (layS C 120) n = C := by
  funext i; unfold ofK
  have n2 := hS.n200
  by_cases h : i < 3
  · rw [if_pos h, h3 i h]
  · rw [if_neg h]
    by_cases h1 : i < n
    · rw [if_pos h1]
      by_cases h2 : i < 120
      · rw [if_pos h2, byteN_lay hS 0 i h2, Nat.zero_add]
      · rw [if_neg h2, byteN_lay hS 120 (i - 120) (by omega), show 120 + (i - 120) = i by omega]
    · rw [if_neg h1, hS.z i (by omega)]
theorem ofB_lay {n : Nat} {C : Nat → Nat} (hS : Small n C) (h3 : ∀ i, i < 3 → C i = 1) : ofB n (layS C 0) (layS C 120) = true := by
  unfold ofB; rw [ofK_lay hS h3]; exact decide_eq_true rfl
theorem lay_size (C : Nat → Nat) (a : Nat) : (layS C a).size = 120 := by rw [layS, lineOf_size, bytesC_len]
theorem cO_lo (O : Nat → Nat) : ∀ i, i < 3 → cO O i = 1 := fun i h => by unfold cO; rw [if_pos h]
set_option maxRecDepth 100000 in
set_option maxHeartbeats 8000000 in
theorem back_walk (blocks taken : Int) (vm : Value) (l : List Int) (w : World) (rb : -9223372036854775808 ≤ blocks ∧ blocks ≤ 9223372036854775807) (rt : -9223372036854775808 ≤ taken ∧ taken ≤ 9223372036854775807)
    (R : Reads w vm (l.map (.int .i64))) (hr : ∀ i, i < l.length → -9223372036854775808 ≤ l.getD i 0 ∧ l.getD i 0 ≤ 9223372036854775807) (ll : l.length ≤ 140737488355328) :
    Calls Try.prog 5 #[.int .i64 blocks, .int .i64 taken, vm] w fun e w' => e = .returned (.bool true) ∧ Below w.heap.size w w' := by
  obtain ⟨ab, cb, rfl, cell⟩ := R.nums
  have hpb := pk_rng blocks 193 (by decide)
  obtain ⟨q, hq⟩ := Int.eq_ofNat_of_zero_le hpb.1
  have hn8 : 8 ≤ 8 + q := by omega
  have hn200 : 8 + q ≤ 200 := by omega
  have hpt := pk_rng taken (8 + (q : Int)) (by omega)
  obtain ⟨tk, htk⟩ := Int.eq_ofNat_of_zero_le hpt.1
  have htk3 : tk ≤ 200 := by omega
  have p1 := fun W => pick_any blocks 193 W rb.1 rb.2 (by decide) (by decide)
  rw [hq] at p1
  have cT := fun W => pick_any taken (8 + (q : Int)) W rt.1 rt.2 (by omega) (by omega)
  rw [htk] at cT
  have cN : ∀ W, Calls Try.prog 9 #[.int .i64 (8 + (q : Int))] W (MadeT W (8 + q) cnt0) := fun W => by
    have := new_good (8 + q) W hn8 hn200
    rwa [show ((8 + q : Nat) : Int) = 8 + (q : Int) by omega] at this
  have q192 : (q : Int) ≤ 192 := by omega
  clear hpb hpt hq htk rb rt R
  go_enter Try.func5, Try.ntmps5
  go_wp2_with (fail)
  refine (awake_any _).mono ?_
  rintro e w1 ⟨rfl, b1⟩
  have hs1 := b1.size
  go_wp2_with (fail)
  refine (p1 _).mono ?_
  rintro e w' ⟨rfl, rfl⟩
  go_wp2_with (fail)
  refine (cN _).mono ?_
  rintro e w2 ⟨rfl, b2, t2⟩
  have B2 := below_e b1 b2
  obtain ⟨g, hg⟩ : ∃ g, w1.heap.size = g := ⟨_, rfl⟩
  rw [hg] at t2
  try rw [hg]
  have hgw : w.heap.size ≤ g := by omega
  rw [← cO_zero] at t2
  clear hg b1 b2 hs1 p1 cN
  go_wp2_with (fail)
  go_loopw [11] (fun t wr => ∃ (i : Nat) (O : Nat → Nat), i ≤ tk ∧ t = .int .i64 (i : Int) ∧ OkO (8 + q) O ∧ Below w.heap.size w wr ∧ TabAt wr g (8 + q) (cO O)) (fun t _ => tk - (intOf t).toNat)
  case atStart => exact ⟨0, fun _ => 0, by omega, rfl, okO_zero _, B2, t2⟩
  case round =>
    obtain ⟨i, O, hi1, rfl, hO, hB, hT⟩ := hrel
    rename World => wr
    have hBs := hB.size
    have hS := small_cO hn8 hn200 hO
    by_cases hlt : i < tk
    · have x1 : (i : Int) < (tk : Int) := by omega
      rcases least_free (8 + q) (cO O) with ⟨k, k1', k2, k3⟩ | hno
      · have cA := alloc_some g (8 + q) _ _ hT hS k k1' k2 k3
        have hk3 : 3 ≤ k := by
          rcases Nat.lt_or_ge k 3 with h | h
          · unfold cO at k2; rw [if_pos h] at k2; cases k2
          · exact h
        rw [cO_upd hk3] at cA
        have hO1 := okO_upd hO hk3 k1' (v := 1) (by decide)
        clear k2 k3
        go_wp2_with (fail)
        refine (cT _).mono ?_
        rintro e w' ⟨rfl, rfl⟩
        go_wp2_with (fail)
        refine cA.mono ?_
        rintro e w6 ⟨rfl, t6⟩
        have B6 := hB.trans (t6.keep _ hgw hBs)
        go_wp2_with (fail)
        go_roundw
        case rel => exact ⟨i + 1, upd O k 1, by omega, by go_num, hO1, B6, t6.t⟩
        case measure => simp [intOf]; omega
      · have cA := alloc_none g (8 + q) _ _ hT hS hno
        clear hno
        go_wp2_with (fail)
        refine (cT _).mono ?_
        rintro e w' ⟨rfl, rfl⟩
        go_wp2_with (fail)
        refine cA.mono ?_
        rintro e w' ⟨rfl, rfl⟩
        go_wp2_with (fail)
        go_roundw
        case rel => exact ⟨i + 1, O, by omega, by go_num, hO, hB, hT⟩
        case measure => simp [intOf]; omega
    · have x1 : decide ((i : Int) < (tk : Int)) = false := by rw [decide_eq_false_iff_not]; omega
      have x1' : decide (i < tk) = false := by rw [decide_eq_false_iff_not]; omega
      go_wp2_with (fail)
      refine (cT _).mono ?_
      rintro e w' ⟨rfl, rfl⟩
      go_wp2_with (fail)
      clear cT
      go_loopw [12] (fun t wr => ∃ (j : Nat) (P : Nat → Nat), j ≤ l.length ∧ t = .int .i64 (j : Int) ∧ OkO (8 + q) P ∧ Below w.heap.size w wr ∧ TabAt wr g (8 + q) (cO P)) (fun t _ => l.length - (intOf t).toNat)
      case atStart => exact ⟨0, O, by omega, rfl, hO, hB, hT⟩
      case round =>
        obtain ⟨j, P, hj, rfl, hP, hB2, hT2⟩ := hrel
        rename World => wr2
        have hB2s := hB2.size
        have hSP := small_cO hn8 hn200 hP
        clear hO hB hT hS
        by_cases hc : j < l.length ∧ j < 500
        · obtain ⟨hjl, hj5⟩ := hc
          have y1 : (j : Int) < (l.length : Int) := by omega
          have y2 : (j : Int) < 500 := by omega
          obtain ⟨nb, no, rfl, hnb, hnc⟩ := cell j hjl
          have dn : wr2.cell? ⟨nb, no + j, none⟩ = some (.int .i64 (l.getD j 0)) := by rw [hB2.cell (p := ⟨nb, no + j, none⟩) hnb]; exact hnc
          have hrj := hr j hjl
          clear hnc
          generalize l.getD j 0 = num at *
          have hpk := pk_rng num (8 + (q : Int)) (by omega)
          obtain ⟨p, hp⟩ := Int.eq_ofNat_of_zero_le hpk.1
          have c9 := fun W => pick_any num (8 + (q : Int)) W hrj.1 hrj.2 (by omega) (by omega)
          rw [hp] at c9
          have hpn : p < 8 + q := by omega
          clear hpk hp
          by_cases hp3 : 3 ≤ p
          · have hob : cO P p = P p := by unfold cO; rw [if_neg (by omega)]
            have hoc := hP.c p
            by_cases ho0 : P p = 0
            · have cI := inc_none g (8 + q) _ (p : Int) _ hT2 hSP (by unfold cntdB; rw [decide_eq_false_iff_not]; rintro ⟨_, h⟩; rw [cntV, if_pos (by omega)] at h; exact absurd h (by rw [Int.toNat_natCast, hob, ho0]; decide))
              clear hob hoc ho0
              go_wp2_with (fail)
              refine (c9 _).mono ?_
              rintro e w' ⟨rfl, rfl⟩
              go_wp2_with (fail)
              refine cI.mono ?_
              rintro e w' ⟨rfl, rfl⟩
              go_wp2_with (fail)
              go_roundw
              case rel => exact ⟨j + 1, P, by omega, by go_num, hP, hB2, hT2⟩
              case measure => simp [intOf]; omega
            · by_cases ho255 : P p = 255
              · have cI := inc_most g (8 + q) _ p _ hT2 hSP hp3 hpn (by rw [hob]; exact ho255)
                clear hob hoc ho0 ho255
                go_wp2_with (fail)
                refine (c9 _).mono ?_
                rintro e w' ⟨rfl, rfl⟩
                go_wp2_with (fail)
                refine cI.mono ?_
                rintro e w' ⟨rfl, rfl⟩
                go_wp2_with (fail)
                go_roundw
                case rel => exact ⟨j + 1, P, by omega, by go_num, hP, hB2, hT2⟩
                case measure => simp [intOf]; omega
              · have cI := inc_good g (8 + q) _ p _ hT2 hSP hp3 hpn (by rw [hob]; omega) (by rw [hob]; omega)
                rw [hob, cO_upd hp3] at cI
                have hO1 := okO_upd hP hp3 hpn (v := P p + 1) (by omega)
                clear hob hoc ho0 ho255
                go_wp2_with (fail)
                refine (c9 _).mono ?_
                rintro e w' ⟨rfl, rfl⟩
                go_wp2_with (fail)
                refine cI.mono ?_
                rintro e w6 ⟨rfl, t6⟩
                have B6 := hB2.trans (t6.keep _ hgw hB2s)
                go_wp2_with (fail)
                go_roundw
                case rel => exact ⟨j + 1, upd P p (P p + 1), by omega, by go_num, hO1, B6, t6.t⟩
                case measure => simp [intOf]; omega
          · have cI := inc_none g (8 + q) _ (p : Int) _ hT2 hSP (by unfold cntdB; rw [decide_eq_false_iff_not]; rintro ⟨h, _⟩; omega)
            go_wp2_with (fail)
            refine (c9 _).mono ?_
            rintro e w' ⟨rfl, rfl⟩
            go_wp2_with (fail)
            refine cI.mono ?_
            rintro e w' ⟨rfl, rfl⟩
            go_wp2_with (fail)
            go_roundw
            case rel => exact ⟨j + 1, P, by omega, by go_num, hP, hB2, hT2⟩
            case measure => simp [intOf]; omega
        · have hexit : (¬ j < l.length) ∨ (j < l.length ∧ ¬ j < 500) := by omega
          clear hc hSP
          rcases hexit with hx | ⟨hx, hx2⟩
          · have y1 : decide (j < l.length) = false := by rw [decide_eq_false_iff_not]; exact hx
            have hS3 := small_cO hn8 hn200 hP
            have h13 := cO_lo P
            have hok := ofK_lay hS3 h13
            have hob := ofB_lay hS3 h13
            have cOf : ∀ W v, Reads W v [.string (layS (cO P) 0), .string (layS (cO P) 120)] → Calls Try.prog 30 #[.int .i64 (8 + (q : Int)), v] W fun e w' => e = .returned (.tuple #[.pointer (some ⟨W.heap.size, 0, none⟩), .int .i64 0]) ∧ Below W.heap.size W w' ∧ TabAt w' W.heap.size (8 + q) (cO P) := fun W v hv => by
              have := of_any (8 + q) v _ _ W hn8 hn200 hv (by rw [lay_size]; omega) (by rw [lay_size]; omega)
              rw [show ((8 + q : Nat) : Int) = 8 + (q : Int) by omega] at this
              refine this.mono fun e w' h => ?_
              unfold OfT at h
              rw [hob, if_pos rfl, hok] at h
              exact h
            generalize cO P = C at *
            clear hok hob h13 hP
            go_wp2_with (fail)
            refine (lay_any _ _ _ _ hT2 hS3).mono ?_
            rintro e w3 ⟨rfl, b3, r3⟩
            have T3 := hT2.below b3 hT2.lt
            have B3 := hB2.trans (b3.mono hB2s)
            go_wp2_with (fail)
            refine (cOf _ _ r3).mono ?_
            rintro e w4 ⟨rfl, b4, t4⟩
            have T4 := T3.below b4 T3.lt
            have B4 := below_e B3 b4
            obtain ⟨gu, hgu⟩ : ∃ gu, w3.heap.size = gu := ⟨_, rfl⟩
            rw [hgu] at t4
            try rw [hgu]
            clear hgu r3 b3 b4 cOf
            go_wp2_with (fail)
            refine (clone_any _ _ _ _ T4).mono ?_
            rintro e w5 ⟨rfl, b5, t5⟩
            have T5 := T4.below b5 T4.lt
            have U5 := t4.below b5 t4.lt
            have B5 := below_e B4 b5
            obtain ⟨gc, hgc⟩ : ∃ gc, w4.heap.size = gc := ⟨_, rfl⟩
            rw [hgc] at t5
            try rw [hgc]
            clear hgc b5 T3 T4 t4
            go_wp2_with (fail)
            have cc1 := fun b => count_any gu (8 + q) C b _ U5 hS3
            have cc2 := fun b => count_any g (8 + q) C b _ T5 hS3
            have cc3 := fun b => count_any gc (8 + q) C b _ t5 hS3
            go_loopw [16] (fun t wr => ∃ i : Nat, i ≤ 8 + q ∧ t = .int .i64 (i : Int) ∧ wr = w5) (fun t _ => 8 + q - (intOf t).toNat)
            case atStart => exact ⟨0, by omega, rfl, (by first | rfl | trivial)⟩
            case round =>
              obtain ⟨x, hx, rfl, rfl⟩ := hrel
              by_cases hlt : x < 8 + q
              · have x1 : (x : Int) < 8 + (q : Int) := by omega
                have d1 := cc1 (x : Int)
                have d2 := cc2 (x : Int)
                have d3 := cc3 (x : Int)
                clear cc1 cc2 cc3
                generalize cntV (8 + q) C (x : Int) = vv at *
                go_wp2_with (fail)
                refine d1.mono ?_
                rintro e w' ⟨rfl, rfl⟩
                go_wp2_with (fail)
                refine d2.mono ?_
                rintro e w' ⟨rfl, rfl⟩
                go_wp2_with (fail)
                refine d3.mono ?_
                rintro e w' ⟨rfl, rfl⟩
                go_wp2_with (fail)
                refine d2.mono ?_
                rintro e w' ⟨rfl, rfl⟩
                go_wp2_with (fail)
                go_roundw
                case rel => exact ⟨x + 1, by omega, by go_num, (by first | rfl | trivial)⟩
                case measure => simp [intOf]; omega
              · obtain rfl : x = 8 + q := by omega
                clear cc1 cc2 cc3
                have u1 := used_any gu (8 + q) C _ U5 hS3
                have u2 := used_any g (8 + q) C _ T5 hS3
                generalize usedTo C 240 = uu at *
                go_wp2_with (fail)
                refine u1.mono ?_
                rintro e w' ⟨rfl, rfl⟩
                go_wp2_with (fail)
                refine u2.mono ?_
                rintro e w' ⟨rfl, rfl⟩
                go_wp2_with (fail)
                refine (lay_any _ _ _ _ U5 hS3).mono ?_
                rintro e wa ⟨rfl, ba, ra⟩
                have Ta := T5.below ba T5.lt
                have Ca := t5.below ba t5.lt
                have Ba := below_e B5 ba
                go_wp2_with (fail)
                refine (lay_any _ _ _ _ Ta hS3).mono ?_
                rintro e wb ⟨rfl, bb, rb⟩
                have Tb := Ta.below bb Ta.lt
                have Cb := Ca.below bb Ca.lt
                have Bb := below_e Ba bb
                have sm := same_any _ _ [layS C 0, layS C 120] [layS C 0, layS C 120] wb (ra.below bb) rb (by simp) (by simp)
                rw [decide_eq_true rfl] at sm
                go_wp2_with (fail)
                refine sm.mono ?_
                rintro e wc ⟨rfl, bc, hc⟩
                have Tc := Tb.heap (w' := wc) (by rw [hc])
                have Cc := Cb.heap (w' := wc) (by rw [hc])
                have Bc := below_e Bb bc
                clear ra rb sm bc hc Ta Tb Ca Cb
                go_wp2_with (fail)
                refine (lay_any _ _ _ _ Cc hS3).mono ?_
                rintro e wd ⟨rfl, bd, rd⟩
                have Td := Tc.below bd Tc.lt
                have Bd := below_e Bc bd
                go_wp2_with (fail)
                refine (lay_any _ _ _ _ Td hS3).mono ?_
                rintro e we ⟨rfl, be, re⟩
                have Be := below_e Bd be
                have sm := same_any _ _ [layS C 0, layS C 120] [layS C 0, layS C 120] we (rd.below be) re (by simp) (by simp)
                rw [decide_eq_true rfl] at sm
                go_wp2_with (fail)
                refine sm.mono ?_
                rintro e wf ⟨rfl, bf, _⟩
                go_wp2_with (fail)
                go_ret
                exact ⟨by simp, below_e Be bf⟩
          · have y1 : (j : Int) < (l.length : Int) := by omega
            have y2 : decide ((j : Int) < 500) = false := by rw [decide_eq_false_iff_not]; omega
            have hS3 := small_cO hn8 hn200 hP
            have h13 := cO_lo P
            have hok := ofK_lay hS3 h13
            have hob := ofB_lay hS3 h13
            have cOf : ∀ W v, Reads W v [.string (layS (cO P) 0), .string (layS (cO P) 120)] → Calls Try.prog 30 #[.int .i64 (8 + (q : Int)), v] W fun e w' => e = .returned (.tuple #[.pointer (some ⟨W.heap.size, 0, none⟩), .int .i64 0]) ∧ Below W.heap.size W w' ∧ TabAt w' W.heap.size (8 + q) (cO P) := fun W v hv => by
              have := of_any (8 + q) v _ _ W hn8 hn200 hv (by rw [lay_size]; omega) (by rw [lay_size]; omega)
              rw [show ((8 + q : Nat) : Int) = 8 + (q : Int) by omega] at this
              refine this.mono fun e w' h => ?_
              unfold OfT at h
              rw [hob, if_pos rfl, hok] at h
              exact h
            generalize cO P = C at *
            clear hok hob h13 hP
            go_wp2_with (fail)
            refine (lay_any _ _ _ _ hT2 hS3).mono ?_
            rintro e w3 ⟨rfl, b3, r3⟩
            have T3 := hT2.below b3 hT2.lt
            have B3 := hB2.trans (b3.mono hB2s)
            go_wp2_with (fail)
            refine (cOf _ _ r3).mono ?_
            rintro e w4 ⟨rfl, b4, t4⟩
            have T4 := T3.below b4 T3.lt
            have B4 := below_e B3 b4
            obtain ⟨gu, hgu⟩ : ∃ gu, w3.heap.size = gu := ⟨_, rfl⟩
            rw [hgu] at t4
            try rw [hgu]
            clear hgu r3 b3 b4 cOf
            go_wp2_with (fail)
            refine (clone_any _ _ _ _ T4).mono ?_
            rintro e w5 ⟨rfl, b5, t5⟩
            have T5 := T4.below b5 T4.lt
            have U5 := t4.below b5 t4.lt
            have B5 := below_e B4 b5
            obtain ⟨gc, hgc⟩ : ∃ gc, w4.heap.size = gc := ⟨_, rfl⟩
            rw [hgc] at t5
            try rw [hgc]
            clear hgc b5 T3 T4 t4
            go_wp2_with (fail)
            have cc1 := fun b => count_any gu (8 + q) C b _ U5 hS3
            have cc2 := fun b => count_any g (8 + q) C b _ T5 hS3
            have cc3 := fun b => count_any gc (8 + q) C b _ t5 hS3
            go_loopw [16] (fun t wr => ∃ i : Nat, i ≤ 8 + q ∧ t = .int .i64 (i : Int) ∧ wr = w5) (fun t _ => 8 + q - (intOf t).toNat)
            case atStart => exact ⟨0, by omega, rfl, (by first | rfl | trivial)⟩
            case round =>
              obtain ⟨x, hx, rfl, rfl⟩ := hrel
              by_cases hlt : x < 8 + q
              · have x1 : (x : Int) < 8 + (q : Int) := by omega
                have d1 := cc1 (x : Int)
                have d2 := cc2 (x : Int)
                have d3 := cc3 (x : Int)
                clear cc1 cc2 cc3
                generalize cntV (8 + q) C (x : Int) = vv at *
                go_wp2_with (fail)
                refine d1.mono ?_
                rintro e w' ⟨rfl, rfl⟩
                go_wp2_with (fail)
                refine d2.mono ?_
                rintro e w' ⟨rfl, rfl⟩
                go_wp2_with (fail)
                refine d3.mono ?_
                rintro e w' ⟨rfl, rfl⟩
                go_wp2_with (fail)
                refine d2.mono ?_
                rintro e w' ⟨rfl, rfl⟩
                go_wp2_with (fail)
                go_roundw
                case rel => exact ⟨x + 1, by omega, by go_num, (by first | rfl | trivial)⟩
                case measure => simp [intOf]; omega
              · obtain rfl : x = 8 + q := by omega
                clear cc1 cc2 cc3
                have u1 := used_any gu (8 + q) C _ U5 hS3
                have u2 := used_any g (8 + q) C _ T5 hS3
                generalize usedTo C 240 = uu at *
                go_wp2_with (fail)
                refine u1.mono ?_
                rintro e w' ⟨rfl, rfl⟩
                go_wp2_with (fail)
                refine u2.mono ?_
                rintro e w' ⟨rfl, rfl⟩
                go_wp2_with (fail)
                refine (lay_any _ _ _ _ U5 hS3).mono ?_
                rintro e wa ⟨rfl, ba, ra⟩
                have Ta := T5.below ba T5.lt
                have Ca := t5.below ba t5.lt
                have Ba := below_e B5 ba
                go_wp2_with (fail)
                refine (lay_any _ _ _ _ Ta hS3).mono ?_
                rintro e wb ⟨rfl, bb, rb⟩
                have Tb := Ta.below bb Ta.lt
                have Cb := Ca.below bb Ca.lt
                have Bb := below_e Ba bb
                have sm := same_any _ _ [layS C 0, layS C 120] [layS C 0, layS C 120] wb (ra.below bb) rb (by simp) (by simp)
                rw [decide_eq_true rfl] at sm
                go_wp2_with (fail)
                refine sm.mono ?_
                rintro e wc ⟨rfl, bc, hc⟩
                have Tc := Tb.heap (w' := wc) (by rw [hc])
                have Cc := Cb.heap (w' := wc) (by rw [hc])
                have Bc := below_e Bb bc
                clear ra rb sm bc hc Ta Tb Ca Cb
                go_wp2_with (fail)
                refine (lay_any _ _ _ _ Cc hS3).mono ?_
                rintro e wd ⟨rfl, bd, rd⟩
                have Td := Tc.below bd Tc.lt
                have Bd := below_e Bc bd
                go_wp2_with (fail)
                refine (lay_any _ _ _ _ Td hS3).mono ?_
                rintro e we ⟨rfl, be, re⟩
                have Be := below_e Bd be
                have sm := same_any _ _ [layS C 0, layS C 120] [layS C 0, layS C 120] we (rd.below be) re (by simp) (by simp)
                rw [decide_eq_true rfl] at sm
                go_wp2_with (fail)
                refine sm.mono ?_
                rintro e wf ⟨rfl, bf, _⟩
                go_wp2_with (fail)
                go_ret
                exact ⟨by simp, below_e Be bf⟩
end Go.Proofs.Ytbfdjlibhinkiaa
