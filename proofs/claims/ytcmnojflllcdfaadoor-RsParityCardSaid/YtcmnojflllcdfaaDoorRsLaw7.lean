/- rs's law: each place of the shards is encoded by itself. -/
import Derived.Test.YtcmnojflllcdfaaDoorRsLaw6
namespace Go.Proofs.YtcmnojflllcdfaaDoor
open Go.RowKit
set_option linter.unusedVariables false
set_option linter.unusedSimpArgs false

def cutL (data : List ByteArray) (c : Nat) (i : Nat) : ByteArray := (data.getD i ⟨#[]⟩).extract 0 c
theorem cutL_rect {data : List ByteArray} {k L c : Nat} (hd : Rect data k L) (hc : c ≤ L) : Rect (firstL (cutL data c) k) k c := firstL_rect fun i hi => by
  rw [cutL, ByteArray.size_extract, hd.s i hi]; omega
theorem par_cut {data : List ByteArray} {k m L c : Nat} (hd : Rect data k L) (k1 : 1 ≤ k) (k2 : k ≤ 8) (m1 : 1 ≤ m) (m2 : m ≤ 8) (c1 : 1 ≤ c) (hc : c ≤ L) (L2 : L ≤ 4096) {i : Nat} (hi : i < m) :
    ((parL data k m).getD i ⟨#[]⟩).extract 0 c = (parL (firstL (cutL data c) k) k m).getD i ⟨#[]⟩ := by
  have rP := (enc_good hd k1 k2 m1 m2 (by omega) L2).2.2
  have hb := cutL_rect hd hc
  have rQ := (enc_good hb k1 k2 m1 m2 c1 (by omega)).2.2
  refine text_ext (by rw [ByteArray.size_extract, rP.s i hi, rQ.s i hi]; omega) fun j hj => ?_
  rw [ByteArray.size_extract, rP.s i hi] at hj
  rw [bt_take _ (show j < c by omega) (by rw [rP.s i hi]; exact hc), ← el_v (parL data k m), ← el_v (parL (firstL (cutL data c) k) k m), parL_el hd k1 k2 m1 m2 (by omega) L2 hi (by omega), parL_el hb k1 k2 m1 m2 c1 (by omega) hi (by omega)]
  congr 1
  refine Mx.mul_congr (fun _ _ => rfl) fun t ht => Mx.F.ext ?_
  rw [el_v, el_v, firstL_get _ ht, cutL, bt_take _ (by omega) (by rw [hd.s t ht]; exact hc)]
set_option maxRecDepth 100000 in
set_option maxHeartbeats 4000000 in
theorem rplaces_walk (vraw : Value) (raw : List ByteArray) (k : Int) (m : Int) (cut : Int) (w : World) (ht : Tabs w) (Rraw : Reads w vraw (tx raw)) (Fraw : Fits raw) (hk : -9223372036854775808 ≤ k ∧ k ≤ 9223372036854775807) (hm : -9223372036854775808 ≤ m ∧ m ≤ 9223372036854775807) (hcut : -9223372036854775808 ≤ cut ∧ cut ≤ 9223372036854775807)  :
    Calls Tryd.prog 10 #[vraw, .int .i64 k, .int .i64 m, .int .i64 cut] w (Says w (.bool true)) := by
  obtain ⟨p, hp, hpk⟩ := pick3_nat k 8 hk.1 hk.2 (by decide) (by decide)
  obtain ⟨q, hq, hpm⟩ := pick3_nat m 8 hm.1 hm.2 (by decide) (by decide)
  obtain ⟨K, hK⟩ : ∃ N : Nat, N = 1 + p := ⟨_, rfl⟩
  have hK1 : 1 + (p : Int) = (K : Int) := by omega
  obtain ⟨M, hM⟩ : ∃ N : Nat, N = 1 + q := ⟨_, rfl⟩
  have hM1 : 1 + (q : Int) = (M : Int) := by omega
  have k1 : 1 ≤ K := by omega
  have k2 : K ≤ 8 := by omega
  have m1 : 1 ≤ M := by omega
  have m2 : M ≤ 8 := by omega
  clear hK hM
  obtain ⟨r, hr, hpc⟩ := pick3_nat cut 19 hcut.1 hcut.2 (by decide) (by decide)
  obtain ⟨C, hC⟩ : ∃ N : Nat, N = 1 + r := ⟨_, rfl⟩
  have hC1 : 1 + (r : Int) = (C : Int) := by omega
  have c1 : 1 ≤ C := by omega
  have c2 : C ≤ 19 := by omega
  clear hC
  obtain ⟨i0, hi, hz0, hz1, hz2⟩ := info_parts Tryd.infoS
  have cD := fun W v hv => data_any v raw K 20 W hv Fraw (by omega) (by omega)
  have rD := dataL_rect raw K 20
  generalize dataL raw K 20 = data at *
  have fD := rD.fits (by omega) (by omega)
  obtain ⟨g1, g2, rP⟩ := enc_good rD k1 k2 m1 m2 (by omega) (by omega)
  have cP := fun W hW v hv => encode_any v data (M : Int) W hW hv fD
  rw [g1, g2] at cP
  have rB := cutL_rect rD (show C ≤ 20 by omega)
  have fB := rB.fits (by omega) (by omega)
  obtain ⟨e1, e2, rQ⟩ := enc_good rB k1 k2 m1 m2 (by omega) (by omega)
  have cQ := fun W hW v hv => encode_any v (firstL (cutL data C) K) (M : Int) W hW hv fB
  rw [e1, e2] at cQ
  have lD := Lib.hid rD.l
  have sD := Lib.hid rD.s
  have lP := Lib.hid rP.l
  have sP := Lib.hid rP.s
  have lQ := Lib.hid rQ.l
  have sQ := Lib.hid rQ.s
  have hpe := Lib.hid (fun i (hi : i < M) => par_cut rD k1 k2 m1 m2 c1 (show C ≤ 20 by omega) (by decide) hi)
  generalize parL (firstL (cutL data C) K) K M = Q at *
  generalize parL data K M = P at *
  clear g1 g2 e1 e2 rP rQ rB rD fD fB
  go_enter Tryd.func10, Tryd.ntmps10
  go_wp2_with (fail)
  refine (rsawake_any _ ht).mono ?_
  rintro e w1 ⟨rfl, b1⟩
  have t1 := ht.below b1 ht.two
  go_wp2_with (fail)
  refine (hpk _).mono ?_
  rintro e wq ⟨rfl, rfl⟩
  go_wp2_with (fail)
  refine (hpm _).mono ?_
  rintro e wq ⟨rfl, rfl⟩
  go_wp2_with (fail)
  have q0 := Rraw.below b1
  refine (cD _ _ q0).mono ?_
  rintro e w2 ⟨v2, rfl, o2, b2⟩
  have t2 := t1.below b2 t1.two
  have r2_d := o2.reads
  go_wp2_with (fail)
  refine (hpc _).mono ?_
  rintro e wq ⟨rfl, rfl⟩
  go_wp2_with (fail)
  rcases r2_d.srow with ⟨_, e⟩ | ⟨bd, od, capd, rfl, hSd⟩
  · have := lD.out; rw [e] at this; simp at this; omega
  go_loopw [11, 12] (fun u i wr => ∃ q : Nat, q ≤ K ∧ i = .int .i64 (q : Int) ∧ Own wr w2.heap.size 9 u (tx (firstL (cutL data C) q)) ∧ Below w2.heap.size w2 wr) (fun _ i _ => K - (intOf i).toNat)
  case atStart => exact ⟨0, by omega, rfl, Own.nil _ _ _, Below.refl _ _⟩
  case round =>
    obtain ⟨q, hq, rfl, hown, hbel⟩ := hrel
    obtain ⟨u, rfl⟩ : ∃ v, v = u11 := ⟨_, rfl⟩
    by_cases hlt : q < K
    · have b1 : (q : Int) < (K : Int) := by omega
      have hcq := (hSd.below hbel).cell q (by rw [lD.out]; exact hlt)
      have d1 : (q : Int) < (data.length : Int) := by have := lD.out; omega
      have hnx := Lib.hid (firstL_succ (cutL data C) q)
      have hfl := firstL_length (cutL data C) q
      have hs := sD.out q hlt
      have hrow : Hid (cutL data C q = (data.getD q ⟨#[]⟩).extract 0 C) := Lib.hid rfl
      have hsl := fun W => slice_to_run (P := Tryd.prog) (T := 9) Tryd.underlying9 (data.getD q ⟨#[]⟩) (C : Int) C rfl (by omega) W
      obtain ⟨v', w', hap, hown4, hb4⟩ := Own.push (P := Tryd.prog) (T := 22) Tryd.underlying22 hi hz0 hz1 hz2 rfl hown (.string ((data.getD q ⟨#[]⟩).extract 0 C)) rfl hbel.size (by rw [List.length_map, hfl]; omega) (by rw [List.length_map, hfl]; omega)
      generalize data.getD q ⟨#[]⟩ = dq at *
      clear hs hfl
      go_wp2_with (at_builtin; refine wpList_append_run hap _ _ rfl rfl rfl rfl rfl ?_)
      go_roundw
      case rel => exact ⟨q + 1, by omega, by go_num, by rw [hnx.out, hrow.out]; exact hown4, hbel.trans hb4⟩
      case measure => simp [intOf]; omega
    · have e : q = K := by omega
      subst e
      have tr := t2.below hbel t2.two
      have rd := r2_d.below hbel
      go_wp2_with (fail)
      refine (cP _ tr _ rd).mono ?_
      rintro e w3 ⟨v3, rfl, o3, b3⟩
      have t3 := tr.below b3 tr.two
      go_wp2_with (fail)
      refine (cQ _ t3 _ (hown.reads.below b3)).mono ?_
      rintro e w4 ⟨v4, rfl, o4, b4⟩
      have r3 := o3.reads.below b4
      have lp := fun W => r3.len_run (P := Tryd.prog) Tryd.underlying22 3 W
      rw [List.length_map, lP.out] at lp
      have lq := fun W => (o4.reads).len_run (P := Tryd.prog) Tryd.underlying22 3 W
      rw [List.length_map, lQ.out] at lq
      rcases r3.srow with ⟨_, e⟩ | ⟨bp, op, capp, rfl, hSp⟩
      · have := lP.out; rw [e] at this; simp at this; omega
      rcases (o4.reads).srow with ⟨_, e⟩ | ⟨bq, oq, capq, rfl, hSq⟩
      · have := lQ.out; rw [e] at this; simp at this; omega
      have hB0 : Below w.heap.size w w4 := below_c (below_c (below_c (below_c b1 b2) hbel) b3) b4
      go_wp2_with (fail)
      go_loopw [17] (fun i wr => ∃ j : Nat, j ≤ M ∧ i = .int .i64 (j : Int) ∧ Below w4.heap.size w4 wr) (fun i _ => M - (intOf i).toNat)
      case atStart => exact ⟨0, by omega, rfl, Below.refl _ _⟩
      case round =>
        obtain ⟨j, hj, rfl, hbj⟩ := hrel
        by_cases hlj : j < M
        · have e1 : (j : Int) < (M : Int) := by omega
          have h1 := (hSp.below hbj).cell j (by rw [lP.out]; exact hlj)
          have h2 := (hSq.below hbj).cell j (by rw [lQ.out]; exact hlj)
          have d1 : (j : Int) < (P.length : Int) := by have := lP.out; omega
          have d2 : (j : Int) < (Q.length : Int) := by have := lQ.out; omega
          have hs := sP.out j hlj
          have hpj := hpe.out j hlj
          have hsl := fun W => slice_to_run (P := Tryd.prog) (T := 9) Tryd.underlying9 (P.getD j ⟨#[]⟩) (C : Int) C rfl (by omega) W
          rw [hpj] at hsl
          have hs20 : (((P.getD j ⟨#[]⟩).size : Nat) : Int) = 20 := by omega
          clear hpj hs
          generalize Q.getD j ⟨#[]⟩ = qj at *
          generalize P.getD j ⟨#[]⟩ = pj at *
          go_wp2
          go_quiet (fail)
          go_wp2
          go_roundw
          case rel => exact ⟨j + 1, by omega, by go_num, belowN hbj _⟩
          case measure => simp [intOf]; omega
        · have e : j = M := by omega
          subst e
          go_wp2
          go_ret
          exact ⟨rfl, below_c hB0 hbj⟩
end Go.Proofs.YtcmnojflllcdfaaDoor
