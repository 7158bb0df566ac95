/- rs's laws: shards are encoded, updated and decoded as the document says. -/
import Derived.Test.YtcmnojflllcdfaaDoorRsRef3
namespace Go.Proofs.YtcmnojflllcdfaaDoor
open Go.RowKit
set_option linter.unusedVariables false
set_option linter.unusedSimpArgs false

theorem enc_fits (data : List ByteArray) (m : Int) : Fits (encL data m) := by
  cases h : encB data m with
  | false => rw [encL, if_neg (by rw [h]; decide)]; exact Fits.nil
  | true =>
    obtain ⟨h1, h2, h3, h4, h5⟩ := encB_facts h
    obtain ⟨M, rfl⟩ := Int.eq_ofNat_of_zero_le (show 0 ≤ m by omega)
    have hf := alike_facts h5 0 (by omega)
    obtain ⟨g1, g2, rP⟩ := enc_good (alike_rect h5) (by omega) (by omega) (show 1 ≤ M by omega) (by omega) hf.2.1 hf.2.2
    rw [g1]; exact rP.fits (by omega) (by omega)
theorem upd_fits (k i : Int) (parity : List ByteArray) (was now : ByteArray) : Fits (updL k i parity was now) := by
  cases h : updB k i parity was now with
  | false => rw [updL, if_neg (by rw [h]; decide)]; exact Fits.nil
  | true =>
    rw [updL, if_pos h]
    unfold updB at h
    simp only [Bool.and_eq_true, decide_eq_true_eq] at h
    obtain ⟨_, _, _, h1, h2, _⟩ := h
    have h3 := (fits8_iff _).1 h1
    have h4 := alike_facts h2
    refine Fits.small (by simp; omega) fun j hj => ?_
    simp only [List.length_map, List.length_range] at hj
    have e : ((List.range parity.length).map (updF k.toNat i.toNat parity was now)).getD j ⟨#[]⟩ = updF k.toNat i.toNat parity was now j := by
      rw [List.getD_eq_getElem?_getD, List.getElem?_eq_getElem (by simpa using hj)]; simp
    rw [e, updF, mulAdd_size]
    have := h4 j hj; omega
theorem dec_fits (m : Int) (shards : List ByteArray) (hv : List Bool) : Fits (decL m shards hv) := by
  by_cases hc : (decO m shards hv && decide (decK m shards ≤ (idxL hv).length)) = true
  · have hc' := hc
    rw [Bool.and_eq_true, decide_eq_true_eq] at hc
    have hB : decB m shards hv = true := by have := hc.1; unfold decO at this; rw [Bool.and_eq_true] at this; exact this.1
    obtain ⟨f1, f2, f3, f4, f5, f6⟩ := decB_facts hB
    obtain ⟨g1, g2, g3, L, g4, g5, g6⟩ := dec_rect hc.1 hc.2
    have hG := chL_rect (genL_rect (decK m shards) m.toNat) g3 g1
    have e0 := gen_inv (m := m.toNat) (by omega) (by omega) (by omega) g1 g2 g3
    rcases inv_cases hG (by omega) (by omega) with ⟨_, rI, _⟩ | ⟨e, _⟩
    · have ok := mulOk_of rI g6 (by omega) (by omega) (by omega) (by omega) g4 g5
      rw [decL, if_pos hc']
      exact (mulL_rect rI g6 (by omega) ok).fits (by omega) (by omega)
    · rw [e0] at e; cases e
  · rw [decL, if_neg hc]; exact Fits.nil
set_option maxRecDepth 100000 in
set_option maxHeartbeats 4000000 in
theorem encodes_walk (vdata : Value) (data : List ByteArray) (m k index : Int) (was now : ByteArray) (w : World) (ht : Tabs w) (Rd : Reads w vdata (tx data)) (Fd : Fits data) (hm : -9223372036854775808 ≤ m ∧ m ≤ 9223372036854775807) (hk : -9223372036854775808 ≤ k ∧ k ≤ 9223372036854775807) (hi : -9223372036854775808 ≤ index ∧ index ≤ 9223372036854775807) :
    Calls Tryd.prog 3 #[vdata, .int .i64 m, .int .i64 k, .int .i64 index, .string was, .string now] w (Says w (.bool true)) := by
  obtain ⟨hm1, hm2⟩ := hm
  obtain ⟨hk1, hk2⟩ := hk
  obtain ⟨hi1, hi2⟩ := hi
  have ld := fun W => Rd.len_run (P := Tryd.prog) Tryd.underlying22 3 W
  rw [List.length_map] at ld
  by_cases c0 : 12 < (data.length : Int)
  · have t0 : decide (12 < (data.length : Int)) = true := by rw [decide_eq_true_eq]; omega
    clear c0
    go_enter Tryd.func3, Tryd.ntmps3
    go_wp2_with (fail)
    refine (rsawake_any _ ht).mono ?_
    rintro e w1 ⟨rfl, b1⟩
    go_wp2_with (fail)
    go_ret
    exact ⟨rfl, b1⟩
  · skip
    by_cases c1 : 5000 < (was.size : Int)
    · have t0 : decide (12 < (data.length : Int)) = false := by rw [decide_eq_false_iff_not]; omega
      have t1 : decide (5000 < (was.size : Int)) = true := by rw [decide_eq_true_eq]; omega
      clear c0 c1
      go_enter Tryd.func3, Tryd.ntmps3
      go_wp2_with (fail)
      refine (rsawake_any _ ht).mono ?_
      rintro e w1 ⟨rfl, b1⟩
      go_wp2_with (fail)
      go_ret
      exact ⟨rfl, b1⟩
    · skip
      by_cases c2 : 5000 < (now.size : Int)
      · have t0 : decide (12 < (data.length : Int)) = false := by rw [decide_eq_false_iff_not]; omega
        have t1 : decide (5000 < (was.size : Int)) = false := by rw [decide_eq_false_iff_not]; omega
        have t2 : decide (5000 < (now.size : Int)) = true := by rw [decide_eq_true_eq]; omega
        clear c0 c1 c2
        go_enter Tryd.func3, Tryd.ntmps3
        go_wp2_with (fail)
        refine (rsawake_any _ ht).mono ?_
        rintro e w1 ⟨rfl, b1⟩
        go_wp2_with (fail)
        go_ret
        exact ⟨rfl, b1⟩
      · skip
        have t0 : decide (12 < (data.length : Int)) = false := by rw [decide_eq_false_iff_not]; omega
        have t1 : decide (5000 < (was.size : Int)) = false := by rw [decide_eq_false_iff_not]; omega
        have t2 : decide (5000 < (now.size : Int)) = false := by rw [decide_eq_false_iff_not]; omega
        have hn12 : data.length ≤ 12 := by omega
        have hw : was.size ≤ 5000 := by omega
        have hw2 : now.size ≤ 5000 := by omega
        clear c0 c1 c2
        have cE := fun W hW v hv => encode_any v data m W hW hv Fd
        have cF := fun W v hv => rencode_any v data m W hv Fd
        have cU := fun W hW v hv => update_any k index v data was now W hW hv Fd (by omega) (by omega) hk1 hk2 hi1 hi2
        have cV := fun W v hv => rupdate_any k index v data was now W hv Fd (by omega) (by omega) hk1 hk2 hi1 hi2
        have f1 := enc_fits data m
        have f2 := upd_fits k index data was now
        have cS1 := fun W va vb ha hb => same_any va vb (encL data m) (encL data m) W ha hb f1 f1
        have cS2 := fun W va vb ha hb => same_any va vb (updL k index data was now) (updL k index data was now) W ha hb f2 f2
        have cS3 := fun W va vb ha hb => same_any va vb data data W ha hb Fd Fd
        rw [sameL_self] at cS1 cS2 cS3
        generalize encL data m = x1 at *
        generalize encE data m = n1 at *
        generalize updL k index data was now = x2 at *
        generalize updE k index data was now = n2 at *
        go_enter Tryd.func3, Tryd.ntmps3
        go_wp2_with (fail)
        refine (rsawake_any _ ht).mono ?_
        rintro e w1 ⟨rfl, b1⟩
        go_wp2_with (fail)
        have r1 := Rd.below b1
        have t1 := ht.below b1 ht.two
        go_loopw [14] (fun i wr => ∃ q : Nat, q ≤ data.length ∧ i = .int .i64 (q : Int) ∧ w1 = wr) (fun i _ => data.length - (intOf i).toNat)
        case atStart => exact ⟨0, by omega, rfl, rfl⟩
        case round =>
          obtain ⟨q, hq, rfl, rfl⟩ := hrel
          by_cases hlt : q < data.length
          · have b2 : (q : Int) < (data.length : Int) := by omega
            have hmk := Fd.m q hlt
            rcases r1.srow with ⟨_, e⟩ | ⟨bd, od, capd, rfl, hSd⟩
            · rw [e] at hlt; simp at hlt
            have hc := hSd.cell q hlt
            by_cases h5 : 5000 < (data.getD q ⟨#[]⟩).size
            · have e5 : decide (5000 < (((data.getD q ⟨#[]⟩).size : Nat) : Int)) = true := by rw [decide_eq_true_eq]; omega
              have e5' : decide (5000 < (data.getD q ⟨#[]⟩).size) = true := by rw [decide_eq_true_eq]; omega
              generalize data.getD q ⟨#[]⟩ = dq at *
              clear h5
              go_wp2_with (fail)
              go_ret
              exact ⟨rfl, b1⟩
            · have e5 : decide (5000 < (((data.getD q ⟨#[]⟩).size : Nat) : Int)) = false := by rw [decide_eq_false_iff_not]; omega
              have e5' : decide (5000 < (data.getD q ⟨#[]⟩).size) = false := by rw [decide_eq_false_iff_not]; omega
              generalize data.getD q ⟨#[]⟩ = dq at *
              clear h5
              go_wp2_with (fail)
              go_roundw
              case rel => exact ⟨q + 1, by omega, by go_num, (by first | rfl | trivial)⟩
              case measure => simp [intOf]; omega
          · have e : q = data.length := by omega
            subst e
            obtain ⟨u1, w2, ha1, p1, c2⟩ := copy_tx r1 (by omega)
            have t2 := t1.below c2 t1.two
            have r2 := r1.below c2
            go_wp2_with (at_builtin; refine wpList_append_run ha1 _ _ rfl rfl rfl rfl rfl ?_)
            refine (cE _ t2 _ p1.reads).mono ?_
            rintro e w3 ⟨v3, rfl, o3, b3⟩
            have t3 := t2.below b3 t2.two
            have r3 := r2.below b3
            have p3 := p1.reads.below b3
            go_wp2_with (fail)
            refine (cF _ _ r3).mono ?_
            rintro e w4 ⟨v4, rfl, o4, b4⟩
            have t4 := t3.below b4 t3.two
            have r4 := r3.below b4
            have p4 := p3.below b4
            have a4 := o3.reads.below b4
            go_wp2_with (fail)
            refine (cU _ t4 _ p4).mono ?_
            rintro e w5 ⟨v5, rfl, o5, b5⟩
            have r5 := r4.below b5
            have p5 := p4.below b5
            have a5 := a4.below b5
            have d5 := o4.reads.below b5
            go_wp2_with (fail)
            refine (cV _ _ r5).mono ?_
            rintro e w6 ⟨v6, rfl, o6, b6⟩
            have r6 := r5.below b6
            have p6 := p5.below b6
            have a6 := a5.below b6
            have d6 := d5.below b6
            have g6 := o5.reads.below b6
            have B6 := below_c (below_c (below_c (below_c (below_c b1 c2) b3) b4) b5) b6
            go_wp2_with (fail)
            refine (cS1 _ _ _ a6 d6).mono ?_
            rintro e w7 ⟨rfl, b7⟩
            go_wp2_with (fail)
            refine (cS2 _ _ _ (g6.below b7) (o6.reads.below b7)).mono ?_
            rintro e w8 ⟨rfl, b8⟩
            have b78 := below_c b7 b8
            go_wp2_with (fail)
            refine (cS3 _ _ _ (p6.below b78) (r6.below b78)).mono ?_
            rintro e w9 ⟨rfl, b9⟩
            go_wp2_with (fail)
            go_ret
            exact ⟨rfl, below_c (below_c B6 b78) b9⟩
set_option maxRecDepth 100000 in
set_option maxHeartbeats 4000000 in
theorem decodes_walk (m : Int) (vdata : Value) (data : List ByteArray) (vh : Value) (hv : List Bool) (w : World) (ht : Tabs w) (Rd : Reads w vdata (tx data)) (Fd : Fits data) (Rh : Reads w vh (bv hv)) (hh : hv.length ≤ 140737488355328) (hm : -9223372036854775808 ≤ m ∧ m ≤ 9223372036854775807) :
    Calls Tryd.prog 4 #[.int .i64 m, vdata, vh] w (Says w (.bool true)) := by
  obtain ⟨hm1, hm2⟩ := hm
  have ld := fun W => Rd.len_run (P := Tryd.prog) Tryd.underlying22 3 W
  rw [List.length_map] at ld
  by_cases c0 : 20 < (data.length : Int)
  · have t0 : decide (20 < (data.length : Int)) = true := by rw [decide_eq_true_eq]; omega
    clear c0
    go_enter Tryd.func4, Tryd.ntmps4
    go_wp2_with (fail)
    refine (rsawake_any _ ht).mono ?_
    rintro e w1 ⟨rfl, b1⟩
    go_wp2_with (fail)
    go_ret
    exact ⟨rfl, b1⟩
  · have t0 : decide (20 < (data.length : Int)) = false := by rw [decide_eq_false_iff_not]; omega
    have hn12 : data.length ≤ 20 := by omega
    clear c0
    have cE := fun W hW va vb ha hb => decode_any m va vb data hv W hW ha hb Fd (by omega) hh
    have cF := fun W va vb ha hb => rdecode_any m va vb data hv W ha hb Fd (by omega) hh hm1 hm2
    have f1 := dec_fits m data hv
    have cS1 := fun W va vb ha hb => same_any va vb (decL m data hv) (decL m data hv) W ha hb f1 f1
    have cS3 := fun W va vb ha hb => same_any va vb data data W ha hb Fd Fd
    rw [sameL_self] at cS1 cS3
    generalize decL m data hv = x1 at *
    generalize decE m data hv = n1 at *
    go_enter Tryd.func4, Tryd.ntmps4
    go_wp2_with (fail)
    refine (rsawake_any _ ht).mono ?_
    rintro e w1 ⟨rfl, b1⟩
    go_wp2_with (fail)
    have r1 := Rd.below b1
    have t1 := ht.below b1 ht.two
    go_loopw [8] (fun i wr => ∃ q : Nat, q ≤ data.length ∧ i = .int .i64 (q : Int) ∧ w1 = wr) (fun i _ => data.length - (intOf i).toNat)
    case atStart => exact ⟨0, by omega, rfl, rfl⟩
    case round =>
      obtain ⟨q, hq, rfl, rfl⟩ := hrel
      by_cases hlt : q < data.length
      · have b2 : (q : Int) < (data.length : Int) := by omega
        have hmk := Fd.m q hlt
        rcases r1.srow with ⟨_, e⟩ | ⟨bd, od, capd, rfl, hSd⟩
        · rw [e] at hlt; simp at hlt
        have hc := hSd.cell q hlt
        by_cases h5 : 5000 < (data.getD q ⟨#[]⟩).size
        · have e5 : decide (5000 < (((data.getD q ⟨#[]⟩).size : Nat) : Int)) = true := by rw [decide_eq_true_eq]; omega
          have e5' : decide (5000 < (data.getD q ⟨#[]⟩).size) = true := by rw [decide_eq_true_eq]; omega
          generalize data.getD q ⟨#[]⟩ = dq at *
          clear h5
          go_wp2_with (fail)
          go_ret
          exact ⟨rfl, b1⟩
        · have e5 : decide (5000 < (((data.getD q ⟨#[]⟩).size : Nat) : Int)) = false := by rw [decide_eq_false_iff_not]; omega
          have e5' : decide (5000 < (data.getD q ⟨#[]⟩).size) = false := by rw [decide_eq_false_iff_not]; omega
          generalize data.getD q ⟨#[]⟩ = dq at *
          clear h5
          go_wp2_with (fail)
          go_roundw
          case rel => exact ⟨q + 1, by omega, by go_num, (by first | rfl | trivial)⟩
          case measure => simp [intOf]; omega
      · have e : q = data.length := by omega
        subst e
        obtain ⟨u1, w2, ha1, p1, c2⟩ := copy_tx r1 (by omega)
        have t2 := t1.below c2 t1.two
        have r2 := r1.below c2
        go_wp2_with (at_builtin; refine wpList_append_run ha1 _ _ rfl rfl rfl rfl rfl ?_)
        have h2 := Rh.below (below_c b1 c2)
        refine (cE _ t2 _ _ p1.reads h2).mono ?_
        rintro e w3 ⟨v3, rfl, o3, b3⟩
        have r3 := r2.below b3
        have p3 := p1.reads.below b3
        go_wp2_with (fail)
        refine (cF _ _ _ r3 (h2.below b3)).mono ?_
        rintro e w4 ⟨v4, rfl, o4, b4⟩
        have r4 := r3.below b4
        have p4 := p3.below b4
        have a4 := o3.reads.below b4
        have B6 := below_c (below_c (below_c b1 c2) b3) b4
        go_wp2_with (fail)
        refine (cS1 _ _ _ a4 o4.reads).mono ?_
        rintro e w7 ⟨rfl, b7⟩
        go_wp2_with (fail)
        refine (cS3 _ _ _ (p4.below b7) (r4.below b7)).mono ?_
        rintro e w9 ⟨rfl, b9⟩
        go_wp2_with (fail)
        go_ret
        exact ⟨rfl, below_c (below_c B6 b7) b9⟩
end Go.Proofs.YtcmnojflllcdfaaDoor
