/- rs's law: the sum of two data has the sum of both parities. -/
import Derived.Test.YtcmnojflllcdfaaDoorRsLaw8
namespace Go.Proofs.YtcmnojflllcdfaaDoor
open Go.RowKit
set_option linter.unusedVariables false
set_option linter.unusedSimpArgs false

def suL (a b : List ByteArray) (i : Nat) : ByteArray := mulAdd (a.getD i ⟨#[]⟩) 1 (b.getD i ⟨#[]⟩)
theorem suL_rect {a b : List ByteArray} {k L : Nat} (ha : Rect a k L) : Rect (firstL (suL a b) k) k L := firstL_rect fun i hi => by
  rw [suL, mulAdd_size]; exact ha.s i hi
theorem su_bt {s t : ByteArray} {j : Nat} (hs : j < s.size) (ht : j < t.size) : bt (mulAdd s 1 t) j = bt s j ^^^ bt t j := by
  rw [bt_mulAdd _ _ _ hs ht, Gf.gm_comm 1, Gf.gm_one (bt_lt _ _)]
theorem par_sum {a b : List ByteArray} {k m L : Nat} (ha : Rect a k L) (hb : Rect b k L) (k1 : 1 ≤ k) (k2 : k ≤ 8) (m1 : 1 ≤ m) (m2 : m ≤ 8) (L1 : 1 ≤ L) (L2 : L ≤ 4096) {i : Nat} (hi : i < m) :
    mulAdd ((parL a k m).getD i ⟨#[]⟩) 1 ((parL b k m).getD i ⟨#[]⟩) = (parL (firstL (suL a b) k) k m).getD i ⟨#[]⟩ := by
  have rP := (enc_good ha k1 k2 m1 m2 L1 L2).2.2
  have rQ := (enc_good hb k1 k2 m1 m2 L1 L2).2.2
  have hc := suL_rect (b := b) ha
  have rR := (enc_good hc k1 k2 m1 m2 L1 L2).2.2
  refine text_ext (by rw [mulAdd_size, rP.s i hi, rR.s i hi]) fun j hj => ?_
  rw [mulAdd_size, rP.s i hi] at hj
  rw [su_bt (by rw [rP.s i hi]; exact hj) (by rw [rQ.s i hi]; exact hj), ← el_v (parL a k m), ← el_v (parL b k m), ← el_v (parL (firstL (suL a b) k) k m), parL_el ha k1 k2 m1 m2 L1 L2 hi hj, parL_el hb k1 k2 m1 m2 L1 L2 hi hj, parL_el hc k1 k2 m1 m2 L1 L2 hi hj]
  show (Mx.mul k (el (mkM (cyEl m) m k)) (el a) i j + Mx.mul k (el (mkM (cyEl m) m k)) (el b) i j).v = _
  congr 1
  unfold Mx.mul
  rw [← Mx.S_add]
  refine Mx.S_congr fun t ht => ?_
  rw [← Mx.mul_add]
  congr 1
  apply Mx.F.ext
  rw [el_v (firstL (suL a b) k), firstL_get _ ht, suL, su_bt (by rw [ha.s t ht]; exact hj) (by rw [hb.s t ht]; exact hj)]; rfl
set_option maxRecDepth 100000 in
set_option maxHeartbeats 4000000 in
theorem sums_walk (vone : Value) (one : List ByteArray) (vtwo : Value) (two : List ByteArray) (k : Int) (m : Int) (w : World) (ht : Tabs w) (Rone : Reads w vone (tx one)) (Fone : Fits one) (Rtwo : Reads w vtwo (tx two)) (Ftwo : Fits two) (hk : -9223372036854775808 ≤ k ∧ k ≤ 9223372036854775807) (hm : -9223372036854775808 ≤ m ∧ m ≤ 9223372036854775807)  :
    Calls Tryd.prog 8 #[vone, vtwo, .int .i64 k, .int .i64 m] w (Says w (.bool true)) := by
  obtain ⟨p, hp, hpk⟩ := pick3_nat k 8 hk.1 hk.2 (by decide) (by decide)
  obtain ⟨q, hq, hpm⟩ := pick3_nat m 8 hm.1 hm.2 (by decide) (by decide)
  obtain ⟨K, hK⟩ : ∃ N : Nat, N = 1 + p := ⟨_, rfl⟩
  have hK1 : 1 + (p : Int) = (K : Int) := by omega
  obtain ⟨M, hM⟩ : ∃ N : Nat, N = 1 + q := ⟨_, rfl⟩
  have hM1 : 1 + (q : Int) = (M : Int) := by omega
  have k1 : 1 ≤ K := by omega
  have k2 : K ≤ 8 := by omega
  have m1 : 1 ≤ M := by omega
  have m2 : M ≤ 8 := by omega
  clear hK hM
  obtain ⟨i0, hi, hz0, hz1, hz2⟩ := info_parts Tryd.infoS
  have cA := fun W v hv => data_any v one K 12 W hv Fone (by omega) (by omega)
  have rA := dataL_rect one K 12
  generalize dataL one K 12 = A at *
  have fA := rA.fits (by omega) (by omega)
  have cB := fun W v hv => data_any v two K 12 W hv Ftwo (by omega) (by omega)
  have rB := dataL_rect two K 12
  generalize dataL two K 12 = B at *
  have fB := rB.fits (by omega) (by omega)
  have rC := suL_rect (b := B) rA
  have lA := Lib.hid rA.l
  have sA := Lib.hid rA.s
  have lB := Lib.hid rB.l
  have sB := Lib.hid rB.s
  obtain ⟨g1P, g2P, rP⟩ := enc_good rA k1 k2 m1 m2 (by decide) (by decide)
  have cP := fun W hW v hv => encode_any v (A) (M : Int) W hW hv (rA.fits (by omega) (by omega))
  rw [g1P, g2P] at cP
  have lP := Lib.hid rP.l
  have sP := Lib.hid rP.s
  obtain ⟨g1Q, g2Q, rQ⟩ := enc_good rB k1 k2 m1 m2 (by decide) (by decide)
  have cQ := fun W hW v hv => encode_any v (B) (M : Int) W hW hv (rB.fits (by omega) (by omega))
  rw [g1Q, g2Q] at cQ
  have lQ := Lib.hid rQ.l
  have sQ := Lib.hid rQ.s
  obtain ⟨g1R, g2R, rR⟩ := enc_good rC k1 k2 m1 m2 (by decide) (by decide)
  have cR := fun W hW v hv => encode_any v (firstL (suL A B) K) (M : Int) W hW hv (rC.fits (by omega) (by omega))
  rw [g1R, g2R] at cR
  have lR := Lib.hid rR.l
  have sR := Lib.hid rR.s
  have hpe := Lib.hid (fun i (hi : i < M) => par_sum rA rB k1 k2 m1 m2 (show 1 ≤ 12 by decide) (by decide) hi)
  generalize parL (firstL (suL A B) K) K M = R at *
  generalize parL A K M = P at *
  generalize parL B K M = Q at *
  clear g1P g2P g1Q g2Q g1R g2R rP rQ rR rA rB rC fA fB
  go_enter Tryd.func8, Tryd.ntmps8
  go_wp2_with (fail)
  refine (rsawake_any _ ht).mono ?_
  rintro e w1 ⟨rfl, b1⟩
  have t1 := ht.below b1 ht.two
  go_wp2_with (fail)
  refine (hpk _).mono ?_
  rintro e wq ⟨rfl, rfl⟩
  go_wp2_with (fail)
  refine (hpm _).mono ?_
  rintro e wq ⟨rfl, rfl⟩
  go_wp2_with (fail)
  have q0 := Rone.below b1
  have p0 := Rtwo.below b1
  refine (cA _ _ q0).mono ?_
  rintro e w2 ⟨v2, rfl, o2, b2⟩
  have t2 := t1.below b2 t1.two
  have r2_a := o2.reads
  have p1 := p0.below b2
  go_wp2_with (fail)
  refine (cB _ _ p1).mono ?_
  rintro e w3 ⟨v3, rfl, o3, b3⟩
  have t3 := t2.below b3 t2.two
  have r3_a := r2_a.below b3
  have r3_b := o3.reads
  go_wp2_with (fail)
  rcases r3_a.srow with ⟨_, e⟩ | ⟨ba, oa, capa, rfl, hSa⟩
  · have := lA.out; rw [e] at this; simp at this; omega
  rcases r3_b.srow with ⟨_, e⟩ | ⟨bb, ob, capb, rfl, hSb⟩
  · have := lB.out; rw [e] at this; simp at this; omega
  go_loopw [12, 13] (fun u i wr => ∃ q : Nat, q ≤ K ∧ i = .int .i64 (q : Int) ∧ Own wr w3.heap.size 9 u (tx (firstL (suL A B) q)) ∧ Below w3.heap.size w3 wr) (fun _ i _ => K - (intOf i).toNat)
  case atStart => exact ⟨0, by omega, rfl, Own.nil _ _ _, Below.refl _ _⟩
  case round =>
    obtain ⟨q, hq, rfl, hown, hbel⟩ := hrel
    obtain ⟨u, rfl⟩ : ∃ v, v = u12 := ⟨_, rfl⟩
    by_cases hlt : q < K
    · have b1 : (q : Int) < (K : Int) := by omega
      have hca := (hSa.below hbel).cell q (by rw [lA.out]; exact hlt)
      have hcb := (hSb.below hbel).cell q (by rw [lB.out]; exact hlt)
      have d1 : (q : Int) < (A.length : Int) := by have := lA.out; omega
      have d2 : (q : Int) < (B.length : Int) := by have := lB.out; omega
      have hnx := Lib.hid (firstL_succ (suL A B) q)
      have hfl := firstL_length (suL A B) q
      have hs1 := sA.out q hlt
      have hs2 := sB.out q hlt
      have hrq : Hid (suL A B q = mulAdd (A.getD q ⟨#[]⟩) 1 (B.getD q ⟨#[]⟩)) := Lib.hid rfl
      have hma := fun W => rmuladd_nat (A.getD q ⟨#[]⟩) (B.getD q ⟨#[]⟩) 1 W (by decide) (by omega) (by omega)
      have hma' : ∀ W, Calls Tryd.prog 23 #[.string (A.getD q ⟨#[]⟩), .int .u8 1, .string (B.getD q ⟨#[]⟩)] W fun e w' => e = .returned (.string (mulAdd (A.getD q ⟨#[]⟩) 1 (B.getD q ⟨#[]⟩))) ∧ Below W.heap.size W w' := hma
      generalize A.getD q ⟨#[]⟩ = aq at *
      generalize B.getD q ⟨#[]⟩ = bq at *
      generalize mulAdd aq 1 bq = row at *
      clear hs1 hs2 hma
      go_wp2_with (fail)
      go_region_law (first | (refine step_append_run hap _ _ rfl rfl rfl rfl rfl ?_) | (go_simp; go_at_call 23; refine (hma' _).mono ?_; rintro e w7 ⟨rfl, b7⟩; have b7 := drew_c b7; have hb7 := hbel.trans (b7.mono hbel.size); obtain ⟨v', w', hap, hown4, hb4⟩ := Own.push (P := Tryd.prog) (T := 22) Tryd.underlying22 hi hz0 hz1 hz2 rfl (hown.after b7) (.string row) rfl hb7.size (by rw [List.length_map, hfl]; omega) (by rw [List.length_map, hfl]; omega)))
      all_goals
        go_wp2_with (fail)
        go_roundw
        case rel => exact ⟨q + 1, by omega, by go_num, by rw [hnx.out, hrq.out]; exact hown4, hb7.trans hb4⟩
        case measure => simp [intOf]; omega
    · have e : q = K := by omega
      subst e
      have tr := t3.below hbel t3.two
      have ra := r3_a.below hbel
      have rb := r3_b.below hbel
      go_wp2_with (fail)
      refine (cP _ tr _ ra).mono ?_
      rintro e w4 ⟨v4, rfl, o4, b4⟩
      have t4 := tr.below b4 tr.two
      go_wp2_with (fail)
      refine (cQ _ t4 _ (rb.below b4)).mono ?_
      rintro e w5 ⟨v5, rfl, o5, b5⟩
      have t5 := t4.below b5 t4.two
      go_wp2_with (fail)
      refine (cR _ t5 _ ((hown.reads.below b4).below b5)).mono ?_
      rintro e w6 ⟨v6, rfl, o6, b6⟩
      have rp := (o4.reads.below b5).below b6
      have rq := o5.reads.below b6
      have lp := fun W => rp.len_run (P := Tryd.prog) Tryd.underlying22 3 W
      rw [List.length_map, lP.out] at lp
      have lq := fun W => rq.len_run (P := Tryd.prog) Tryd.underlying22 3 W
      rw [List.length_map, lQ.out] at lq
      have lr := fun W => (o6.reads).len_run (P := Tryd.prog) Tryd.underlying22 3 W
      rw [List.length_map, lR.out] at lr
      rcases rp.srow with ⟨_, e⟩ | ⟨bp, op, capp, rfl, hSp⟩
      · have := lP.out; rw [e] at this; simp at this; omega
      rcases rq.srow with ⟨_, e⟩ | ⟨bq, oq, capq, rfl, hSq⟩
      · have := lQ.out; rw [e] at this; simp at this; omega
      rcases (o6.reads).srow with ⟨_, e⟩ | ⟨br, or', capr, rfl, hSr⟩
      · have := lR.out; rw [e] at this; simp at this; omega
      have hB0 : Below w.heap.size w w6 := below_c (below_c (below_c (below_c (below_c (below_c b1 b2) b3) hbel) b4) b5) b6
      go_wp2_with (fail)
      go_loopw [20] (fun i wr => ∃ j : Nat, j ≤ M ∧ i = .int .i64 (j : Int) ∧ Below w6.heap.size w6 wr) (fun i _ => M - (intOf i).toNat)
      case atStart => exact ⟨0, by omega, rfl, Below.refl _ _⟩
      case round =>
        obtain ⟨j, hj, rfl, hbj⟩ := hrel
        by_cases hlj : j < M
        · have e1 : (j : Int) < (M : Int) := by omega
          have d1 : (j : Int) < (P.length : Int) := by have := lP.out; omega
          have d2 : (j : Int) < (Q.length : Int) := by have := lQ.out; omega
          have d3 : (j : Int) < (R.length : Int) := by have := lR.out; omega
          have hs1 := sP.out j hlj
          have hs2 := sQ.out j hlj
          have hpj := hpe.out j hlj
          have hma := fun W => rmuladd_nat (P.getD j ⟨#[]⟩) (Q.getD j ⟨#[]⟩) 1 W (by decide) (by omega) (by omega)
          rw [hpj] at hma
          have hma' : ∀ W, Calls Tryd.prog 23 #[.string (P.getD j ⟨#[]⟩), .int .u8 1, .string (Q.getD j ⟨#[]⟩)] W fun e w' => e = .returned (.string (R.getD j ⟨#[]⟩)) ∧ Below W.heap.size W w' := hma
          go_wp2_with (fail)
          refine wp_region_cls (Below wr.heap.size wr) (by kernel_rfl) (by kernel_rfl) (Below.refl _ _).drew ?_
          intro Z f hne hD hE
          have hc1 : ∀ z, (f z).cell? ⟨bp, op + j, none⟩ = some (.string (P.getD j ⟨#[]⟩)) := fun z => ((hSp.below hbj).below (hD z)).cell j (by rw [lP.out]; exact hlj)
          have hc2 : ∀ z, (f z).cell? ⟨bq, oq + j, none⟩ = some (.string (Q.getD j ⟨#[]⟩)) := fun z => ((hSq.below hbj).below (hD z)).cell j (by rw [lQ.out]; exact hlj)
          have hc3 : ∀ z, (f z).cell? ⟨br, or' + j, none⟩ = some (.string (R.getD j ⟨#[]⟩)) := fun z => ((hSr.below hbj).below (hD z)).cell j (by rw [lR.out]; exact hlj)
          clear hpj hs1 hs2 hma
          generalize R.getD j ⟨#[]⟩ = rj at *
          generalize Q.getD j ⟨#[]⟩ = qj at *
          generalize P.getD j ⟨#[]⟩ = pj at *
          repeat (go_big_quiet_step (first | (go_at_call 23; exact toQB hD hE _ (hma' _))))
          refine wpQuiet_nil ?_
          intro _ hw'
          obtain ⟨zq, hw''⟩ := hw'
          subst hw''
          have hz := hD zq
          clear hc1 hc2 hc3 hE
          generalize f zq = w7 at *
          clear hD
          go_wp2
          go_roundw
          case rel => exact ⟨j + 1, by omega, by go_num, below_c hbj hz⟩
          case measure => simp [intOf]; omega
        · have e : j = M := by omega
          subst e
          go_wp2
          go_ret
          exact ⟨rfl, below_c hB0 hbj⟩
end Go.Proofs.YtcmnojflllcdfaaDoor
