/- rs's law: data scaled have parity scaled. -/
import Derived.Test.YtcmnojflllcdfaaDoorRsLaw7
namespace Go.Proofs.YtcmnojflllcdfaaDoor
open Go.RowKit
set_option linter.unusedVariables false
set_option linter.unusedSimpArgs false

def scL (data : List ByteArray) (c L : Nat) (i : Nat) : ByteArray := mulAdd (zrow L) c (data.getD i ⟨#[]⟩)
theorem scL_rect (data : List ByteArray) (k L c : Nat) : Rect (firstL (scL data c L) k) k L := firstL_rect fun i hi => by
  rw [scL, mulAdd_size, zrow_size]
theorem sc_bt (L c : Nat) {s : ByteArray} (hs : s.size = L) {j : Nat} (hj : j < L) (hc : c < 256) : bt (mulAdd (zrow L) c s) j = Gf.gm c (bt s j) := by
  rw [bt_mulAdd _ _ _ (by rw [zrow_size]; exact hj) (by rw [hs]; exact hj), bt_zrow, Nat.zero_xor]
theorem par_scale {data : List ByteArray} {k m L c : Nat} (hd : Rect data k L) (k1 : 1 ≤ k) (k2 : k ≤ 8) (m1 : 1 ≤ m) (m2 : m ≤ 8) (L1 : 1 ≤ L) (L2 : L ≤ 4096) (hc : c < 256) {i : Nat} (hi : i < m) :
    mulAdd (zrow L) c ((parL data k m).getD i ⟨#[]⟩) = (parL (firstL (scL data c L) k) k m).getD i ⟨#[]⟩ := by
  have rP := (enc_good hd k1 k2 m1 m2 L1 L2).2.2
  have hb := scL_rect data k L c
  have rQ := (enc_good hb k1 k2 m1 m2 L1 L2).2.2
  refine text_ext (by rw [mulAdd_size, zrow_size, rQ.s i hi]) fun j hj => ?_
  rw [mulAdd_size, zrow_size] at hj
  rw [sc_bt L c (rP.s i hi) hj hc, ← el_v (parL data k m), ← el_v (parL (firstL (scL data c L) k) k m), parL_el hd k1 k2 m1 m2 L1 L2 hi hj, parL_el hb k1 k2 m1 m2 L1 L2 hi hj]
  show (Mx.F.mk c hc * Mx.mul k (el (mkM (cyEl m) m k)) (el data) i j).v = _
  congr 1
  unfold Mx.mul
  rw [← Mx.S_mul]
  refine Mx.S_congr fun t ht => ?_
  rw [Mx.mul_left_comm]
  congr 1
  apply Mx.F.ext
  rw [el_v (firstL (scL data c L) k), firstL_get _ ht, scL, sc_bt L c (hd.s t ht) hj hc]; rfl
set_option maxRecDepth 100000 in
set_option maxHeartbeats 4000000 in
theorem scales_nat (vraw : Value) (raw : List ByteArray) (k m : Int) (c : Nat) (w : World) (ht : Tabs w) (Rraw : Reads w vraw (tx raw)) (Fraw : Fits raw) (hk : -9223372036854775808 ≤ k ∧ k ≤ 9223372036854775807) (hm : -9223372036854775808 ≤ m ∧ m ≤ 9223372036854775807) (hc : c < 256) :
    Calls Tryd.prog 9 #[vraw, .int .i64 k, .int .i64 m, .int .u8 (c : Int)] w (Says w (.bool true)) := by
  obtain ⟨p, hp, hpk⟩ := pick3_nat k 8 hk.1 hk.2 (by decide) (by decide)
  obtain ⟨q, hq, hpm⟩ := pick3_nat m 8 hm.1 hm.2 (by decide) (by decide)
  obtain ⟨K, hK⟩ : ∃ N : Nat, N = 1 + p := ⟨_, rfl⟩
  have hK1 : 1 + (p : Int) = (K : Int) := by omega
  obtain ⟨M, hM⟩ : ∃ N : Nat, N = 1 + q := ⟨_, rfl⟩
  have hM1 : 1 + (q : Int) = (M : Int) := by omega
  have k1 : 1 ≤ K := by omega
  have k2 : K ≤ 8 := by omega
  have m1 : 1 ≤ M := by omega
  have m2 : M ≤ 8 := by omega
  clear hK hM
  obtain ⟨i0, hi, hz0, hz1, hz2⟩ := info_parts Tryd.infoS
  have cD := fun W v hv => data_any v raw K 12 W hv Fraw (by omega) (by omega)
  have rD := dataL_rect raw K 12
  generalize dataL raw K 12 = data at *
  have fD := rD.fits (by omega) (by omega)
  obtain ⟨g1, g2, rP⟩ := enc_good rD k1 k2 m1 m2 (by omega) (by omega)
  have cP := fun W hW v hv => encode_any v data (M : Int) W hW hv fD
  rw [g1, g2] at cP
  have rB := scL_rect data K 12 c
  have fB := rB.fits (by omega) (by omega)
  obtain ⟨e1, e2, rQ⟩ := enc_good rB k1 k2 m1 m2 (by omega) (by omega)
  have cQ := fun W hW v hv => encode_any v (firstL (scL data c 12) K) (M : Int) W hW hv fB
  rw [e1, e2] at cQ
  have lD := Lib.hid rD.l
  have sD := Lib.hid rD.s
  have lP := Lib.hid rP.l
  have sP := Lib.hid rP.s
  have lQ := Lib.hid rQ.l
  have sQ := Lib.hid rQ.s
  have hpe := Lib.hid (fun i (hi : i < M) => par_scale rD k1 k2 m1 m2 (show 1 ≤ 12 by decide) (by decide) hc hi)
  generalize parL (firstL (scL data c 12) K) K M = Q at *
  generalize parL data K M = P at *
  clear g1 g2 e1 e2 rP rQ rB rD fD fB
  go_enter Tryd.func9, Tryd.ntmps9
  go_wp2_with (fail)
  refine (rsawake_any _ ht).mono ?_
  rintro e w1 ⟨rfl, b1⟩
  have t1 := ht.below b1 ht.two
  go_wp2_with (fail)
  refine (hpk _).mono ?_
  rintro e wq ⟨rfl, rfl⟩
  go_wp2_with (fail)
  refine (hpm _).mono ?_
  rintro e wq ⟨rfl, rfl⟩
  go_wp2_with (fail)
  have q0 := Rraw.below b1
  refine (cD _ _ q0).mono ?_
  rintro e w2 ⟨v2, rfl, o2, b2⟩
  have t2 := t1.below b2 t1.two
  have r2_d := o2.reads
  obtain ⟨wz, hmk, hBz, bz, _⟩ := BRow.make_run w2 12 (by decide)
  have hmk' : (Instr.makeSlice 41 (.int .i64 12) (.int .i64 12)).run Tryd.prog w2 = .ok (.slice (some ⟨w2.heap.size, 0, none⟩) 12 12) wz := hmk
  have hst := hBz.str 12 12 (by simp)
  rw [show lineOf (List.replicate 12 0) = zrow 12 from rfl] at hst
  have hzs : (zrow 12).size = 12 := zrow_size 12
  have hrow : ∀ q, Hid (scL data c 12 q = mulAdd (zrow 12) c (data.getD q ⟨#[]⟩)) := fun q => Lib.hid rfl
  generalize zrow 12 = zero at *
  clear hmk hBz
  go_wp2_with (fail)
  have r2_d := r2_d.below bz
  have t2 := t2.below bz t2.two
  have b2 := below_c b2 bz
  rcases r2_d.srow with ⟨_, e⟩ | ⟨bd, od, capd, rfl, hSd⟩
  · have := lD.out; rw [e] at this; simp at this; omega
  go_loopw [12, 13] (fun u i wr => ∃ q : Nat, q ≤ K ∧ i = .int .i64 (q : Int) ∧ Own wr wz.heap.size 9 u (tx (firstL (scL data c 12) q)) ∧ Below wz.heap.size wz wr) (fun _ i _ => K - (intOf i).toNat)
  case atStart => exact ⟨0, by omega, rfl, Own.nil _ _ _, Below.refl _ _⟩
  case round =>
    obtain ⟨q, hq, rfl, hown, hbel⟩ := hrel
    obtain ⟨u, rfl⟩ : ∃ v, v = u12 := ⟨_, rfl⟩
    by_cases hlt : q < K
    · have b1 : (q : Int) < (K : Int) := by omega
      have hcq := (hSd.below hbel).cell q (by rw [lD.out]; exact hlt)
      have d1 : (q : Int) < (data.length : Int) := by have := lD.out; omega
      have hnx := Lib.hid (firstL_succ (scL data c 12) q)
      have hfl := firstL_length (scL data c 12) q
      have hs := sD.out q hlt
      have hrq := hrow q
      have hma := fun W => rmuladd_nat zero (data.getD q ⟨#[]⟩) c W hc (by omega) (by omega)
      generalize data.getD q ⟨#[]⟩ = dq at *
      generalize mulAdd zero c dq = row at *
      clear hs
      go_wp2_with (fail)
      refine (hma _).mono ?_
      rintro e w7 ⟨rfl, b7⟩
      have hb7 := hbel.trans (b7.mono hbel.size)
      obtain ⟨v', w', hap, hown4, hb4⟩ := Own.push (P := Tryd.prog) (T := 22) Tryd.underlying22 hi hz0 hz1 hz2 rfl (hown.after b7) (.string row) rfl hb7.size (by rw [List.length_map, hfl]; omega) (by rw [List.length_map, hfl]; omega)
      clear hfl
      go_wp2_with (at_builtin; refine wpList_append_run hap _ _ rfl rfl rfl rfl rfl ?_)
      go_roundw
      case rel => exact ⟨q + 1, by omega, by go_num, by rw [hnx.out, hrq.out]; exact hown4, hb7.trans hb4⟩
      case measure => simp [intOf]; omega
    · have e : q = K := by omega
      subst e
      have tr := t2.below hbel t2.two
      have rd := r2_d.below hbel
      go_wp2_with (fail)
      refine (cP _ tr _ rd).mono ?_
      rintro e w3 ⟨v3, rfl, o3, b3⟩
      have t3 := tr.below b3 tr.two
      go_wp2_with (fail)
      refine (cQ _ t3 _ (hown.reads.below b3)).mono ?_
      rintro e w4 ⟨v4, rfl, o4, b4⟩
      have r3 := o3.reads.below b4
      have lp := fun W => r3.len_run (P := Tryd.prog) Tryd.underlying22 3 W
      rw [List.length_map, lP.out] at lp
      have lq := fun W => (o4.reads).len_run (P := Tryd.prog) Tryd.underlying22 3 W
      rw [List.length_map, lQ.out] at lq
      rcases r3.srow with ⟨_, e⟩ | ⟨bp, op, capp, rfl, hSp⟩
      · have := lP.out; rw [e] at this; simp at this; omega
      rcases (o4.reads).srow with ⟨_, e⟩ | ⟨bq, oq, capq, rfl, hSq⟩
      · have := lQ.out; rw [e] at this; simp at this; omega
      have hB0 : Below w.heap.size w w4 := below_c (below_c (below_c (below_c b1 b2) hbel) b3) b4
      go_wp2_with (fail)
      go_loopw [18] (fun i wr => ∃ j : Nat, j ≤ M ∧ i = .int .i64 (j : Int) ∧ Below w4.heap.size w4 wr) (fun i _ => M - (intOf i).toNat)
      case atStart => exact ⟨0, by omega, rfl, Below.refl _ _⟩
      case round =>
        obtain ⟨j, hj, rfl, hbj⟩ := hrel
        by_cases hlj : j < M
        · have e1 : (j : Int) < (M : Int) := by omega
          have d1 : (j : Int) < (P.length : Int) := by have := lP.out; omega
          have d2 : (j : Int) < (Q.length : Int) := by have := lQ.out; omega
          have hs := sP.out j hlj
          have hpj := hpe.out j hlj
          have hma := fun W => rmuladd_nat zero (P.getD j ⟨#[]⟩) c W hc (by omega) (by omega)
          rw [hpj] at hma
          go_wp2_with (fail)
          refine wp_region_cls (Below wr.heap.size wr) (by kernel_rfl) (by kernel_rfl) (Below.refl _ _).drew ?_
          intro Z f hne hD hE
          have hc1 : ∀ z, (f z).cell? ⟨bp, op + j, none⟩ = some (.string (P.getD j ⟨#[]⟩)) := fun z => ((hSp.below hbj).below (hD z)).cell j (by rw [lP.out]; exact hlj)
          have hc2 : ∀ z, (f z).cell? ⟨bq, oq + j, none⟩ = some (.string (Q.getD j ⟨#[]⟩)) := fun z => ((hSq.below hbj).below (hD z)).cell j (by rw [lQ.out]; exact hlj)
          clear hpj hs
          generalize Q.getD j ⟨#[]⟩ = qj at *
          generalize P.getD j ⟨#[]⟩ = pj at *
          repeat (go_big_quiet_step (first | (go_at_call 23; exact toQB hD hE _ (hma _))))
          refine wpQuiet_nil ?_
          intro _ hw'
          obtain ⟨zq, hw''⟩ := hw'
          subst hw''
          have hz := hD zq
          clear hc1 hc2 hE
          generalize f zq = w6 at *
          clear hD
          go_wp2
          go_roundw
          case rel => exact ⟨j + 1, by omega, by go_num, below_c hbj hz⟩
          case measure => simp [intOf]; omega
        · have e : j = M := by omega
          subst e
          go_wp2
          go_ret
          exact ⟨rfl, below_c hB0 hbj⟩
theorem scales_walk (vraw : Value) (raw : List ByteArray) (k m c : Int) (w : World) (ht : Tabs w) (Rraw : Reads w vraw (tx raw)) (Fraw : Fits raw) (hk : -9223372036854775808 ≤ k ∧ k ≤ 9223372036854775807) (hm : -9223372036854775808 ≤ m ∧ m ≤ 9223372036854775807) (hc : 0 ≤ c ∧ c < 256) :
    Calls Tryd.prog 9 #[vraw, .int .i64 k, .int .i64 m, .int .u8 c] w (Says w (.bool true)) := by
  obtain ⟨C, rfl⟩ := Int.eq_ofNat_of_zero_le hc.1
  exact scales_nat vraw raw k m C w ht Rraw Fraw hk hm (by omega)
end Go.Proofs.YtcmnojflllcdfaaDoor
