/- rs's law: what is updated is what is encoded anew. -/
import Derived.Test.YtcmnojflllcdfaaDoorRsLaw5
namespace Go.Proofs.YtcmnojflllcdfaaDoor
open Go.RowKit
set_option linter.unusedVariables false
set_option linter.unusedSimpArgs false

theorem Rect.put {a : List ByteArray} {m n : Nat} (h : Rect a m n) (i : Nat) (r : ByteArray) (hr : r.size = n) : Rect (a.set i r) m n :=
  ⟨by rw [List.length_set]; exact h.l, fun t ht => by
    rw [List.getD_eq_getElem?_getD]
    by_cases e : i = t
    · subst e; rw [List.getElem?_set_self (by rw [h.l]; exact ht)]; exact hr
    · rw [List.getElem?_set_ne e, ← List.getD_eq_getElem?_getD]; exact h.s t ht⟩
theorem put_el {a : List ByteArray} {m n i : Nat} (h : Rect a m n) (r : ByteArray) (t j : Nat) (ht : t < m) : el (a.set i r) t j = el a t j + (if t = i then el a i j + Mx.F.mk (bt r j) (bt_lt _ _) else 0) := by
  by_cases e : t = i
  · subst e
    rw [if_pos rfl, Mx.add_add]
    apply Mx.F.ext
    rw [el_v, List.getD_eq_getElem?_getD, List.getElem?_set_self (by rw [h.l]; exact ht)]; rfl
  · rw [if_neg e, Mx.add_zero]
    apply Mx.F.ext
    rw [el_v, el_v, List.getD_eq_getElem?_getD, List.getElem?_set_ne (Ne.symm e), ← List.getD_eq_getElem?_getD]
theorem parL_el {data : List ByteArray} {k m L : Nat} (hd : Rect data k L) (k1 : 1 ≤ k) (k2 : k ≤ 8) (m1 : 1 ≤ m) (m2 : m ≤ 8) (L1 : 1 ≤ L) (L2 : L ≤ 4096) {a j : Nat} (ha : a < m) (hj : j < L) :
    el (parL data k m) a j = Mx.mul k (el (mkM (cyEl m) m k)) (el data) a j := mulL_el (mkM_rect (cyEl m) m k) hd k1 (enc_mul hd k1 k2 m1 m2 L1 L2) ha hj
theorem upd_good {data : List ByteArray} {k m L i : Nat} {x : ByteArray} (hd : Rect data k L) (k1 : 1 ≤ k) (k2 : k ≤ 8) (m1 : 1 ≤ m) (m2 : m ≤ 8) (L1 : 1 ≤ L) (L2 : L ≤ 4096) (hi : i < k) (hx : x.size = L) :
    updL (k : Int) (i : Int) (parL data k m) (data.getD i ⟨#[]⟩) x = parL (data.set i x) k m ∧ updE (k : Int) (i : Int) (parL data k m) (data.getD i ⟨#[]⟩) x = 0 := by
  have rP := (enc_good hd k1 k2 m1 m2 L1 L2).2.2
  have hdi := hd.s i hi
  have hp0 := rP.s 0 m1
  have r3 : Rect [(parL data k m).getD 0 ⟨#[]⟩, data.getD i ⟨#[]⟩, x] 3 L := ⟨rfl, fun t ht => by
    match t, ht with
    | 0, _ => exact hp0
    | 1, _ => exact hdi
    | 2, _ => exact hx⟩
  have hB : updB (k : Int) (i : Int) (parL data k m) (data.getD i ⟨#[]⟩) x = true := by
    unfold updB
    rw [alike_of_rect rP L1 L2, alike_of_rect r3 L1 L2, rP.l]
    simp [fits8]; omega
  refine ⟨?_, by rw [updE, if_pos hB]⟩
  rw [updL, if_pos hB, rP.l, show ((k : Int)).toNat = k by omega, show ((i : Int)).toNat = i by omega]
  have hd' := hd.put i x hx
  refine Rect.ext (firstL_rect (f := updF k i (parL data k m) (data.getD i ⟨#[]⟩) x) fun a ha => by rw [updF, mulAdd_size]; exact rP.s a ha) (enc_good hd' k1 k2 m1 m2 L1 L2).2.2 fun a j ha hj => ?_
  rw [parL_el hd' k1 k2 m1 m2 L1 L2 ha hj]
  have e1 : el (firstL (updF k i (parL data k m) (data.getD i ⟨#[]⟩) x) m) a j = el (parL data k m) a j + el (mkM (cyEl m) m k) a i * (el data i j + Mx.F.mk (bt x j) (bt_lt _ _)) := by
    apply Mx.F.ext
    rw [el_v, firstL_get _ ha, updF, rP.l, bt_mulAdd _ _ _ (by rw [rP.s a ha]; exact hj) (by rw [mulAdd_size, hdi]; exact hj), bt_mulAdd _ _ _ (by rw [hdi]; exact hj) (by rw [hx]; exact hj), Gf.gm_comm 1, Gf.gm_one (bt_lt _ _)]
    rfl
  rw [show el ((List.range m).map (updF k i (parL data k m) (data.getD i ⟨#[]⟩) x)) a j = el (firstL (updF k i (parL data k m) (data.getD i ⟨#[]⟩) x) m) a j from rfl, e1, parL_el hd k1 k2 m1 m2 L1 L2 ha hj]
  have e2 : Mx.S k (fun t => el (mkM (cyEl m) m k) a t * (if t = i then el data i j + Mx.F.mk (bt x j) (bt_lt _ _) else 0)) = el (mkM (cyEl m) m k) a i * (el data i j + Mx.F.mk (bt x j) (bt_lt _ _)) := by
    rw [Mx.S_one hi (fun t ht hne => by rw [if_neg hne, Mx.mul_zero]), if_pos rfl]
  rw [← e2]
  exact ((Mx.S_congr fun t ht => by rw [put_el hd x t j ht, Mx.mul_add]).trans (Mx.S_add k (fun t => el (mkM (cyEl m) m k) a t * el data t j) (fun t => el (mkM (cyEl m) m k) a t * (if t = i then el data i j + Mx.F.mk (bt x j) (bt_lt _ _) else 0)))).symm
set_option maxRecDepth 100000 in
set_option maxHeartbeats 4000000 in
theorem updates_walk (vraw : Value) (raw : List ByteArray) (k : Int) (m : Int) (index : Int) (now : ByteArray) (w : World) (ht : Tabs w) (Rraw : Reads w vraw (tx raw)) (Fraw : Fits raw) (hk : -9223372036854775808 ≤ k ∧ k ≤ 9223372036854775807) (hm : -9223372036854775808 ≤ m ∧ m ≤ 9223372036854775807) (hindex : -9223372036854775808 ≤ index ∧ index ≤ 9223372036854775807) (hnow : now.size ≤ 140737488351232)  :
    Calls Tryd.prog 7 #[vraw, .int .i64 k, .int .i64 m, .int .i64 index, .string now] w (Says w (.bool true)) := by
  obtain ⟨p, hp, hpk⟩ := pick3_nat k 8 hk.1 hk.2 (by decide) (by decide)
  obtain ⟨q, hq, hpm⟩ := pick3_nat m 8 hm.1 hm.2 (by decide) (by decide)
  obtain ⟨K, hK⟩ : ∃ N : Nat, N = 1 + p := ⟨_, rfl⟩
  have hK1 : 1 + (p : Int) = (K : Int) := by omega
  obtain ⟨M, hM⟩ : ∃ N : Nat, N = 1 + q := ⟨_, rfl⟩
  have hM1 : 1 + (q : Int) = (M : Int) := by omega
  have k1 : 1 ≤ K := by omega
  have k2 : K ≤ 8 := by omega
  have m1 : 1 ≤ M := by omega
  have m2 : M ≤ 8 := by omega
  clear hK hM
  obtain ⟨x, hx, hpx⟩ := pick3_nat index (K : Int) hindex.1 hindex.2 (by omega) (by omega)
  have hxK : x < K := by omega
  have cD := fun W v hv => data_any v raw K 16 W hv Fraw (by omega) (by omega)
  have fN : Fits [now] := ⟨by simp, fun i hi => by
    have : i = 0 := by simpa using hi
    subst this; show now.size ≤ _; omega⟩
  have cX := fun W v hv => data_any v [now] 1 16 W hv fN (by omega) (by omega)
  have rD := dataL_rect raw K 16
  have rX := dataL_rect [now] 1 16
  obtain ⟨X, hXl, hXs⟩ : ∃ X, dataL [now] 1 16 = [X] ∧ X.size = 16 := by
    have h := rX.s 0 (by decide)
    have h2 := rX.l
    match hh : dataL [now] 1 16, h2 with
    | [X], _ => rw [hh] at h; exact ⟨X, rfl, h⟩
  rw [hXl] at cX
  generalize dataL raw K 16 = data at *
  have fD := rD.fits (by omega) (by omega)
  obtain ⟨g1, g2, rP⟩ := enc_good rD k1 k2 m1 m2 (by omega) (by omega)
  have fP := rP.fits (by omega) (by omega)
  have cP := fun W hW v hv => encode_any v data (M : Int) W hW hv fD
  rw [g1, g2] at cP
  have rE := rD.put x X hXs
  have fE := rE.fits (by omega) (by omega)
  obtain ⟨e1, e2, rQ⟩ := enc_good rE k1 k2 m1 m2 (by omega) (by omega)
  have fQ := rQ.fits (by omega) (by omega)
  have cQ := fun W hW v hv => encode_any v (data.set x X) (M : Int) W hW hv fE
  rw [e1, e2] at cQ
  obtain ⟨u1, u2⟩ := upd_good rD k1 k2 m1 m2 (by omega) (by omega) hxK hXs
  have sx : (data.getD x ⟨#[]⟩).size = 16 := rD.s x hxK
  have cU := fun W hW v hv => update_any (K : Int) (x : Int) v (parL data K M) (data.getD x ⟨#[]⟩) X W hW hv fP (by omega) (by omega) (by omega) (by omega) (by omega) (by omega)
  rw [u1, u2] at cU
  have cS := fun W va vb ha hb => same_any va vb (parL (data.set x X) K M) (parL (data.set x X) K M) W ha hb fQ fQ
  rw [sameL_self] at cS
  have hst := Lib.hid (show tx (data.set x X) = (tx data).set x (.string X) by rw [tx, tx, List.map_set])
  have lD := Lib.hid rD.l
  generalize data.set x X = data2 at *
  generalize parL data2 K M = par2 at *
  generalize parL data K M = par at *
  clear g1 g2 rP rD fD rE fE e1 e2 rQ u1 u2 fP fQ rX hXl sx
  go_enter Tryd.func7, Tryd.ntmps7
  go_wp2_with (fail)
  refine (rsawake_any _ ht).mono ?_
  rintro e w1 ⟨rfl, b1⟩
  have t1 := ht.below b1 ht.two
  go_wp2_with (fail)
  refine (hpk _).mono ?_
  rintro e wq ⟨rfl, rfl⟩
  go_wp2_with (fail)
  refine (hpm _).mono ?_
  rintro e wq ⟨rfl, rfl⟩
  go_wp2_with (fail)
  have q0 := Rraw.below b1
  refine (cD _ _ q0).mono ?_
  rintro e w2 ⟨v2, rfl, o2, b2⟩
  have t2 := t1.below b2 t1.two
  have r2_d := o2.reads
  go_wp2_with (fail)
  refine (hpx _).mono ?_
  rintro e wq ⟨rfl, rfl⟩
  go_wp2_with (fail)
  refine (cP _ t2 _ r2_d).mono ?_
  rintro e w3 ⟨v3, rfl, o3, b3⟩
  have t3 := t2.below b3 t2.two
  have r3_d := r2_d.below b3
  have r3_p := o3.reads
  go_wp2_with (fail)
  have bA : Below w3.heap.size w3 (w3.alloc (.cells #[.string now] 9)) := (Below.refl _ _).alloc (Nat.le_refl _) _
  refine (cX _ _ (Reads.lit w3 9 (tx [now]) 1)).mono ?_
  rintro e w4 ⟨v4, rfl, o4, b4⟩
  have b4' : Below w3.heap.size w3 w4 := bA.trans (b4.mono bA.size)
  have t4 := t3.below b4' t3.two
  obtain ⟨g4, c4, rfl, _, hg4⟩ := o4.form (by simp)
  have hc4 := o4.cell (i := 0) (by simp)
  have od := (o2.after b3).after b4'
  obtain ⟨g, c, e2, hg1, hg2⟩ := o2.form (by rw [List.length_map, lD.out]; omega)
  rw [List.length_map, lD.out] at e2
  subst e2
  have hcx := od.cell (i := x) (by rw [List.length_map, lD.out]; exact hxK)
  rw [tx_getD _ (by rw [lD.out]; exact hxK)] at hcx
  have r3 := o3.reads.below b4'
  go_wp2_with (fail)
  refine (cU _ t4 _ r3).mono ?_
  rintro e w5 ⟨v5, rfl, o5, b5⟩
  have t5 := t4.below b5 t4.two
  have od5 := od.after b5
  have hcy := od5.cell (i := x) (by rw [List.length_map, lD.out]; exact hxK)
  have hfy := od5.frozen x
  have p9 := od5.set x (.string X)
  rw [← hst.out] at p9
  have b15 : Below w1.heap.size w1 w5 := below_c (below_c (below_c b2 b3) b4') b5
  have b9 : Below w1.heap.size w1 (w5.setCell ⟨g, x, none⟩ (.string X)) := b15.setCell hg1 _
  have o9 := o5.setOther (a := ⟨g, x, none⟩) (fun e => by have := (o5.o.lt g e).1; have := b4'.size; have := b3.size; omega) (.string X)
  go_wp2_with (fail)
  refine (cQ _ (t1.below b9 t1.two) _ p9.reads).mono ?_
  rintro e wA ⟨vA, rfl, oA, bA⟩
  go_wp2_with (fail)
  refine (cS _ _ _ (o9.reads.below bA) oA.reads).mono ?_
  rintro e wE ⟨rfl, bE⟩
  go_wp2_with (fail)
  go_ret
  exact ⟨rfl, below_c (below_c (below_c b1 b9) bA) bE⟩
end Go.Proofs.YtcmnojflllcdfaaDoor
