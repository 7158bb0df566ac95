/- rs: the document's own shards and Encode. -/
import Derived.Test.YtcmnojflllcdfaaDoorRsLaw1
import Derived.Test.YtcmnojflllcdfaaDoorMatRef3
namespace Go.Proofs.YtcmnojflllcdfaaDoor
open Go.RowKit
set_option linter.unusedVariables false
set_option linter.unusedSimpArgs false

set_option maxRecDepth 100000 in
set_option maxHeartbeats 2000000 in
theorem rshards_any (v : Value) (l : List ByteArray) (w : World) (h : Reads w v (tx l)) (hF : Fits l) :
    Calls Tryd.prog 28 #[v] w (Says w (.bool (alikeL l))) := by
  have hn := hF.n
  rcases h.srow with ⟨rfl, rfl⟩ | ⟨b, off, cap, rfl, hS⟩
  · go_enter Tryd.func28, Tryd.ntmps28
    go_wp2
    go_loopw [3] (fun i wr => i = .int .i64 0 ∧ w = wr) (fun _ _ => 0)
    case atStart => exact ⟨rfl, rfl⟩
    case round =>
      obtain ⟨rfl, rfl⟩ := hrel
      go_wp2
      go_ret
      exact ⟨rfl, Below.refl _ _⟩
  · go_enter Tryd.func28, Tryd.ntmps28
    go_wp2
    go_loopw [3] (fun i wr => ∃ k : Nat, k ≤ l.length ∧ i = .int .i64 (k : Int) ∧ Below w.heap.size w wr ∧ Hid (∀ j, j < k → (l.getD j ⟨#[]⟩).size = (l.getD 0 ⟨#[]⟩).size ∧ 1 ≤ (l.getD j ⟨#[]⟩).size ∧ (l.getD j ⟨#[]⟩).size ≤ 4096)) (fun i _ => l.length - (intOf i).toNat)
    case atStart => exact ⟨0, by omega, rfl, Below.refl _ _, Lib.hid (fun j hj => by omega)⟩
    case round =>
      obtain ⟨k, hk, rfl, hbel, hj⟩ := hrel
      by_cases hlt : k < l.length
      · have hc := (hS.below hbel).cell k hlt
        have hc0 := (hS.below hbel).cell 0 (by omega)
        rw [Nat.add_zero] at hc0
        have hmk := hF.m k hlt
        have hm0 := hF.m 0 (by omega)
        have b1 : (k : Int) < (l.length : Int) := by omega
        by_cases he : (l.getD k ⟨#[]⟩).size = (l.getD 0 ⟨#[]⟩).size
        · have e3 : ((((l.getD k ⟨#[]⟩).size : Nat) : Int) != (((l.getD 0 ⟨#[]⟩).size : Nat) : Int)) = false := by rw [he]; exact bne_self_eq_false _
          by_cases h1 : 1 ≤ (l.getD k ⟨#[]⟩).size
          · have e4 : decide ((((l.getD k ⟨#[]⟩).size : Nat) : Int) < 1) = false := by rw [decide_eq_false_iff_not]; omega
            by_cases h2 : (l.getD k ⟨#[]⟩).size ≤ 4096
            · have e5 : decide (4096 < (((l.getD k ⟨#[]⟩).size : Nat) : Int)) = false := by rw [decide_eq_false_iff_not]; omega
              have hj' : Hid (∀ j, j < k + 1 → (l.getD j ⟨#[]⟩).size = (l.getD 0 ⟨#[]⟩).size ∧ 1 ≤ (l.getD j ⟨#[]⟩).size ∧ (l.getD j ⟨#[]⟩).size ≤ 4096) := Lib.hid (fun j hjk => by
                by_cases e : j = k
                · subst e; exact ⟨he, h1, h2⟩
                · exact hj.out j (by omega))
              obtain ⟨rk, hrk⟩ : ∃ r, l.getD k ⟨#[]⟩ = r := ⟨_, rfl⟩
              obtain ⟨r0, hr0⟩ : ∃ r, l.getD 0 ⟨#[]⟩ = r := ⟨_, rfl⟩
              rw [hrk] at hc hmk e3 e4 e5
              rw [hr0] at hc0 hm0 e3
              clear hj hrk hr0 he h1 h2
              go_wp2
              go_quiet (fail)
              go_wp2
              go_roundw
              case rel => exact ⟨k + 1, by omega, by go_num, belowN hbel _, hj'⟩
              case measure => simp [intOf]; omega
            · have e5 : decide (4096 < (((l.getD k ⟨#[]⟩).size : Nat) : Int)) = true := by rw [decide_eq_true_eq]; omega
              have hz : Hid (alikeL l = false) := Lib.hid (alike_false hlt (by omega))
              obtain ⟨rk, hrk⟩ : ∃ r, l.getD k ⟨#[]⟩ = r := ⟨_, rfl⟩
              obtain ⟨r0, hr0⟩ : ∃ r, l.getD 0 ⟨#[]⟩ = r := ⟨_, rfl⟩
              rw [hrk] at hc hmk e3 e4 e5
              rw [hr0] at hc0 hm0 e3
              clear hj hrk hr0 he h1 h2
              go_wp2
              go_quiet (fail)
              go_wp2
              go_ret
              exact ⟨by rw [hz.out]; rfl, belowN hbel _⟩
          · have e4 : decide ((((l.getD k ⟨#[]⟩).size : Nat) : Int) < 1) = true := by rw [decide_eq_true_eq]; omega
            have hz : Hid (alikeL l = false) := Lib.hid (alike_false hlt (by omega))
            obtain ⟨rk, hrk⟩ : ∃ r, l.getD k ⟨#[]⟩ = r := ⟨_, rfl⟩
            obtain ⟨r0, hr0⟩ : ∃ r, l.getD 0 ⟨#[]⟩ = r := ⟨_, rfl⟩
            rw [hrk] at hc hmk e3 e4
            rw [hr0] at hc0 hm0 e3
            clear hj hrk hr0 he h1
            go_wp2
            go_quiet (fail)
            go_wp2
            go_ret
            exact ⟨by rw [hz.out]; rfl, belowN hbel _⟩
        · have e3 : ((((l.getD k ⟨#[]⟩).size : Nat) : Int) != (((l.getD 0 ⟨#[]⟩).size : Nat) : Int)) = true := by rw [bne_iff_ne]; omega
          have hz : Hid (alikeL l = false) := Lib.hid (alike_false hlt (by omega))
          obtain ⟨rk, hrk⟩ : ∃ r, l.getD k ⟨#[]⟩ = r := ⟨_, rfl⟩
          obtain ⟨r0, hr0⟩ : ∃ r, l.getD 0 ⟨#[]⟩ = r := ⟨_, rfl⟩
          rw [hrk] at hc hmk e3
          rw [hr0] at hc0 hm0 e3
          clear hj hrk hr0 he
          go_wp2
          go_quiet (fail)
          go_wp2
          go_ret
          exact ⟨by rw [hz.out]; rfl, belowN hbel _⟩
      · have e : k = l.length := by omega
        subst e
        have hz : Hid (alikeL l = true) := Lib.hid (alike_true hj.out)
        go_wp2
        go_ret
        exact ⟨by rw [hz.out]; rfl, hbel⟩
theorem fits8_iff (n : Int) : fits8 n = true ↔ 1 ≤ n ∧ n ≤ 8 := by simp [fits8]
theorem fits8_not {n : Int} (h : n < 1 ∨ 8 < n) : fits8 n = false := by simp [fits8]; omega
theorem cy_nat {k m : Nat} (k1 : 1 ≤ k) (k2 : k ≤ 16) (m1 : 1 ≤ m) (m2 : m ≤ 16) : cyL (k : Int) (m : Int) = mkM (cyEl m) m k ∧ cyE (k : Int) (m : Int) = 0 := by
  have h1 : fitsB (k : Int) = true := by simp [fitsB]; omega
  have h2 : fitsB (m : Int) = true := by simp [fitsB]; omega
  rw [cyL, cyE, h1, h2, show ((k : Int)).toNat = k by omega, show ((m : Int)).toNat = m by omega]
  exact ⟨rfl, rfl⟩
set_option maxRecDepth 100000 in
set_option maxHeartbeats 4000000 in
theorem rencode_any (v : Value) (data : List ByteArray) (m : Int) (w : World) (hD : Reads w v (tx data)) (hF : Fits data) :
    Calls Tryd.prog 15 #[v, .int .i64 m] w (GivesL w (encL data m) (encE data m)) := by
  have hn := hF.n
  have ld := fun W => hD.len_run (P := Tryd.prog) Tryd.underlying22 3 W
  rw [List.length_map] at ld
  have cs := fun W (hW : Below w.heap.size w W) => rshards_any v data W (hD.below hW) hF
  by_cases c0 : (data.length : Int) < 1
  · have t0 : decide ((data.length : Int) < 1) = true := by rw [decide_eq_true_eq]; omega
    have hz : Hid (encB data m = false) := Lib.hid (by
      unfold encB
      rw [fits8_not (n := (data.length : Int)) (by omega)]
      rfl)
    clear c0
    go_enter Tryd.func15, Tryd.ntmps15
    go_wp2_with (fail)
    go_ret2
    exact enc_bad w data m hz _ (Below.refl _ _)
  · skip
    by_cases c1 : 8 < (data.length : Int)
    · have t0 : decide ((data.length : Int) < 1) = false := by rw [decide_eq_false_iff_not]; omega
      have t1 : decide (8 < (data.length : Int)) = true := by rw [decide_eq_true_eq]; omega
      have hz : Hid (encB data m = false) := Lib.hid (by
        unfold encB
        rw [fits8_not (n := (data.length : Int)) (by omega)]
        rfl)
      clear c0 c1
      go_enter Tryd.func15, Tryd.ntmps15
      go_wp2_with (fail)
      go_ret2
      exact enc_bad w data m hz _ (Below.refl _ _)
    · skip
      by_cases c2 : m < 1
      · have t0 : decide ((data.length : Int) < 1) = false := by rw [decide_eq_false_iff_not]; omega
        have t1 : decide (8 < (data.length : Int)) = false := by rw [decide_eq_false_iff_not]; omega
        have t2 : decide (m < 1) = true := by rw [decide_eq_true_eq]; omega
        have hz : Hid (encB data m = false) := Lib.hid (by
          unfold encB
          rw [fits8_not (n := m) (by omega)]
          rw [Bool.and_false]; rfl)
        clear c0 c1 c2
        go_enter Tryd.func15, Tryd.ntmps15
        go_wp2_with (fail)
        go_ret2
        exact enc_bad w data m hz _ (Below.refl _ _)
      · skip
        by_cases c3 : 8 < m
        · have t0 : decide ((data.length : Int) < 1) = false := by rw [decide_eq_false_iff_not]; omega
          have t1 : decide (8 < (data.length : Int)) = false := by rw [decide_eq_false_iff_not]; omega
          have t2 : decide (m < 1) = false := by rw [decide_eq_false_iff_not]; omega
          have t3 : decide (8 < m) = true := by rw [decide_eq_true_eq]; omega
          have hz : Hid (encB data m = false) := Lib.hid (by
            unfold encB
            rw [fits8_not (n := m) (by omega)]
            rw [Bool.and_false]; rfl)
          clear c0 c1 c2 c3
          go_enter Tryd.func15, Tryd.ntmps15
          go_wp2_with (fail)
          go_ret2
          exact enc_bad w data m hz _ (Below.refl _ _)
        · skip
          have e0 : decide ((data.length : Int) < 1) = false := by rw [decide_eq_false_iff_not]; omega
          have e1 : decide (8 < (data.length : Int)) = false := by rw [decide_eq_false_iff_not]; omega
          have e2 : decide (m < 1) = false := by rw [decide_eq_false_iff_not]; omega
          have e3 : decide (8 < m) = false := by rw [decide_eq_false_iff_not]; omega
          obtain ⟨M, rfl⟩ := Int.eq_ofNat_of_zero_le (show 0 ≤ m by omega)
          cases ha : alikeL data with
          | false =>
            have hz : Hid (encB data (M : Int) = false) := Lib.hid (by unfold encB; rw [ha, Bool.and_false])
            rw [ha] at cs
            clear c0 c1 c2 c3 ha
            go_enter Tryd.func15, Tryd.ntmps15
            go_wp2_with (fail)
            refine (cs _ (Below.refl _ _)).mono ?_
            rintro e w1 ⟨rfl, b1⟩
            go_wp2_with (fail)
            go_ret2
            exact enc_bad w data M hz _ b1
          | true =>
            rw [ha] at cs
            have hal := alike_rect ha
            have hf := alike_facts ha 0 (by omega)
            obtain ⟨g1, g2, rP⟩ := enc_good hal (by omega) (by omega) (show 1 ≤ M by omega) (by omega) hf.2.1 hf.2.2
            have hz1 := Lib.hid g1
            have hz2 := Lib.hid g2
            obtain ⟨y1, y2⟩ := cy_nat (k := data.length) (m := M) (by omega) (by omega) (by omega) (by omega)
            have cc := fun W => rcauchy_any (data.length : Int) (M : Int) W
            rw [y1, y2] at cc
            have fc := (mkM_rect (cyEl M) M data.length).fits (by omega) (by omega)
            have cm := fun W vc hc hv => rmxmul_any vc v (mkM (cyEl M) M data.length) data W hc hv fc hF
            rw [show mulL (mkM (cyEl M) M data.length) data = parL data data.length M from rfl] at cm
            generalize mulE (mkM (cyEl M) M data.length) data = me at *
            generalize mkM (cyEl M) M data.length = cy at *
            generalize parL data data.length M = P at *
            clear c0 c1 c2 c3 ha hal hf g1 g2 y1 y2 rP
            go_enter Tryd.func15, Tryd.ntmps15
            go_wp2_with (fail)
            refine (cs _ (Below.refl _ _)).mono ?_
            rintro e w1 ⟨rfl, b1⟩
            go_wp2_with (fail)
            refine (cc _).mono ?_
            rintro e w2 ⟨v2, rfl, o2, b2⟩
            go_wp2_with (fail)
            refine (cm _ _ o2.reads (hD.below (below_c b1 b2))).mono ?_
            rintro e w3 ⟨v3, rfl, o3, b3⟩
            go_wp2_with (fail)
            go_ret2
            exact ⟨v3, by rw [hz2.out]; rfl, by rw [hz1.out]; exact o3.mono (below_c b1 b2).size, below_c (below_c b1 b2) b3⟩
end Go.Proofs.YtcmnojflllcdfaaDoor
