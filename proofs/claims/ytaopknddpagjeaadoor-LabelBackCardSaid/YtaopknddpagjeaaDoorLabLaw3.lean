/- label: LabelBack, walked. -/
import Derived.Test.YtaopknddpagjeaaDoorLabFit
import Derived.Test.YtaopknddpagjeaaDoorLabBkM
import Derived.Test.YtaopknddpagjeaaDoorLabAwake
import Derived.Test.YtaopknddpagjeaaDoorLabArgs
import Derived.Test.YtaopknddpagjeaaDoorBytes
import Derived.BigQuiet
import Derived.Deep.QuietTactic
namespace Go.Proofs.YtaopknddpagjeaaDoor
open Go.RowKit
set_option linter.unusedVariables false
set_option linter.unusedSimpArgs false
open Lb

set_option maxRecDepth 100000 in
set_option maxHeartbeats 4000000 in
theorem lback_walk (r t : Lbl) (vs vb vc us ub uc : Value) (c : Int) (w : World) (hx : LR w r vs vb vc) (hy : LR w t us ub uc) (hnx : NumsOk r) (hny : NumsOk t)
    (hc : -9223372036854775808 ≤ c ∧ c ≤ 9223372036854775807) :
    Calls Tryd.prog 4 #[r.v vs vb vc, t.v us ub uc, .int .i64 c] w (Tells w (.bool true)) := by
  have A0 := (LblAt.made w r vs vb vc 36).below (B := w.heap.size + 1) ((Below.refl _ _).alloc (by simp) (.cells #[.int .i64 t.i, .int .i64 t.s, .int .i64 t.g, .int .i64 t.k, .int .i64 t.m, .int .i64 t.b, us, ub, uc] 36)) (by omega)
  have C0 := LblAt.made (w.alloc (.cells #[.int .i64 r.i, .int .i64 r.s, .int .i64 r.g, .int .i64 r.k, .int .i64 r.m, .int .i64 r.b, vs, vb, vc] 36)) t us ub uc 36
  have B0 : Below w.heap.size w ((w.alloc (.cells #[.int .i64 r.i, .int .i64 r.s, .int .i64 r.g, .int .i64 r.k, .int .i64 r.m, .int .i64 r.b, vs, vb, vc] 36)).alloc (.cells #[.int .i64 t.i, .int .i64 t.s, .int .i64 t.g, .int .i64 t.k, .int .i64 t.m, .int .i64 t.b, us, ub, uc] 36)) := ((Below.refl _ _).alloc (Nat.le_refl _) _).alloc (by simp) _
  rw [show (w.alloc (.cells #[.int .i64 r.i, .int .i64 r.s, .int .i64 r.g, .int .i64 r.k, .int .i64 r.m, .int .i64 r.b, vs, vb, vc] 36)).heap.size = w.heap.size + 1 by simp] at C0
  have cF := fun W (h : LR W r vs vb vc) => fit10_any r vs vb vc W h hnx.i hnx.s hnx.g hnx.k hnx.m hnx.b hnx.st hnx.bo hnx.cu
  have cG := fun W (h : LR W t us ub uc) => fit10_any t us ub uc W h hny.i hny.s hny.g hny.k hny.m hny.b hny.st hny.bo hny.cu
  replace cF := Lib.hid cF
  replace cG := Lib.hid cG
  clear hnx hny
  unfold Lbl.v
  go_enter Tryd.func4, Tryd.ntmps4
  go_upto_region 1 with (fail)
  generalize ((w.alloc (.cells #[.int .i64 r.i, .int .i64 r.s, .int .i64 r.g, .int .i64 r.k, .int .i64 r.m, .int .i64 r.b, vs, vb, vc] 36)).alloc (.cells #[.int .i64 t.i, .int .i64 t.s, .int .i64 t.g, .int .i64 t.k, .int .i64 t.m, .int .i64 t.b, us, ub, uc] 36)) = w0 at *
  obtain ⟨p, hp⟩ : ∃ p, w.heap.size = p := ⟨_, rfl⟩
  rw [hp] at A0 C0 ⊢
  replace hp := Lib.hid hp
  go_wp2_with (fail)
  refine (awake10_any w0).mono ?_
  rintro e w1 ⟨rfl, b1⟩
  have A1 := A0.below b1 A0.lt
  have C1 := C0.below b1 C0.lt
  have B1 := below_c B0 b1
  clear A0 C0 B0 b1
  have hpp := hp.out
  have hlt1 := A1.lt
  have hlt2 := C1.lt
  have cR := cF.out w1 (hx.below B1)
  clear cF hx
  unfold Lbl.v at cR
  have ⟨e0, e1, e2, e3, e4, e5, e6, e7, e8, elt⟩ := A1
  clear hpp
  go_wp2_with (fail)
  refine cR.mono ?_
  rintro e w2 ⟨va, vb', vc', rfl, O2, b2⟩
  clear e0 e1 e2 e3 e4 e5 e6 e7 e8 elt cR
  have hfo := fit_ok r
  have hN1 : (fitL r).st.length = fN r := (fitTo_len r (fN r)).1
  have hN2 : (fitL r).bo.length = fN r := (fitTo_len r (fN r)).2.1
  have hN3 : (fitL r).cu.length = fN r := (fitTo_len r (fN r)).2.2
  have hfn := fN_rng r
  obtain ⟨N, hN⟩ : ∃ N, fN r = N := ⟨_, rfl⟩
  rw [hN] at hN1 hN2 hN3 hfn
  generalize fitL r = x at *
  replace hfn := hfn.2
  clear hN
  obtain ⟨a1, d1, ev⟩ := O2.a.reads.isSlice
  rw [List.length_map, hN1] at ev
  subst ev
  obtain ⟨a2, d2, ev⟩ := O2.b.reads.isSlice
  rw [List.length_map, hN2] at ev
  subst ev
  obtain ⟨a3, d3, ev⟩ := O2.c.reads.isSlice
  rw [List.length_map, hN3] at ev
  subst ev
  have L2 := O2.lr (by omega) (by omega) (by omega)
  clear hN1 hN2 hN3
  have C2 := C1.below b2 hlt2
  have B2 := below_c B1 b2
  clear B1 C1 A1 b2 O2
  have X3 := LblAt.made w2 x (.slice a1 N d1) (.slice a2 N d2) (.slice a3 N d3) 26
  have bk : Below w2.heap.size w2 (w2.alloc (.cells #[.int .i64 x.i, .int .i64 x.s, .int .i64 x.g, .int .i64 x.k, .int .i64 x.m, .int .i64 x.b, .slice a1 N d1, .slice a2 N d2, .slice a3 N d3] 26)) := (Below.refl _ _).alloc (Nat.le_refl _) _
  simp only [Lbl.v]
  go_upto_region 3 with (fail)
  have L3 := L2.below bk
  have C3 := C2.below bk C2.lt
  have B3 := below_c B2 bk
  clear L2 C2 B2 bk
  generalize w2.alloc (.cells #[.int .i64 x.i, .int .i64 x.s, .int .i64 x.g, .int .i64 x.k, .int .i64 x.m, .int .i64 x.b, .slice a1 N d1, .slice a2 N d2, .slice a3 N d3] 26) = w3 at *
  obtain ⟨q, hq⟩ : ∃ q, w2.heap.size = q := ⟨_, rfl⟩
  rw [hq] at X3 ⊢
  clear hq
  have cR := cG.out w3 (hy.below B3)
  clear cG hy
  unfold Lbl.v at cR
  have ⟨e0, e1, e2, e3, e4, e5, e6, e7, e8, elt⟩ := C3
  go_wp2_with (fail)
  refine cR.mono ?_
  rintro e w4 ⟨va, vb', vc', rfl, O4, b4⟩
  clear e0 e1 e2 e3 e4 e5 e6 e7 e8 elt cR C3
  have hgo := fit_ok t
  have hN1 : (fitL t).st.length = fN t := (fitTo_len t (fN t)).1
  have hN2 : (fitL t).bo.length = fN t := (fitTo_len t (fN t)).2.1
  have hN3 : (fitL t).cu.length = fN t := (fitTo_len t (fN t)).2.2
  have hgn := fN_rng t
  obtain ⟨M, hN⟩ : ∃ N, fN t = N := ⟨_, rfl⟩
  rw [hN] at hN1 hN2 hN3 hgn
  generalize fitL t = y at *
  replace hgn := hgn.2
  clear hN
  obtain ⟨b1, d4, ev⟩ := O4.a.reads.isSlice
  rw [List.length_map, hN1] at ev
  subst ev
  obtain ⟨b2, d5, ev⟩ := O4.b.reads.isSlice
  rw [List.length_map, hN2] at ev
  subst ev
  obtain ⟨b3, d6, ev⟩ := O4.c.reads.isSlice
  rw [List.length_map, hN3] at ev
  subst ev
  have L4 := O4.lr (by omega) (by omega) (by omega)
  clear hN1 hN2 hN3
  have X4 := X3.below b4 X3.lt
  have L4' := L3.below b4
  have B4 := below_c B3 b4
  clear B3 X3 L3 b4 O4
  have Y5 := LblAt.made w4 y (.slice b1 M d4) (.slice b2 M d5) (.slice b3 M d6) 26
  have bk : Below w4.heap.size w4 (w4.alloc (.cells #[.int .i64 y.i, .int .i64 y.s, .int .i64 y.g, .int .i64 y.k, .int .i64 y.m, .int .i64 y.b, .slice b1 M d4, .slice b2 M d5, .slice b3 M d6] 26)) := (Below.refl _ _).alloc (Nat.le_refl _) _
  simp only [Lbl.v]
  go_upto_region 4 with (fail)
  have L5 := L4.below bk
  have L5' := L4'.below bk
  have X5 := X4.below bk X4.lt
  have B5 := below_c B4 bk
  clear L4 L4' X4 B4 bk
  generalize w4.alloc (.cells #[.int .i64 y.i, .int .i64 y.s, .int .i64 y.g, .int .i64 y.k, .int .i64 y.m, .int .i64 y.b, .slice b1 M d4, .slice b2 M d5, .slice b3 M d6] 26) = w5 at *
  obtain ⟨u, hu⟩ : ∃ q, w4.heap.size = q := ⟨_, rfl⟩
  rw [hu] at Y5 ⊢
  clear hu
  have cP := lput_any x _ _ _ w5 L5'
  have e1' : putE x = 0 := by unfold putE; rw [if_pos hfo]
  rw [e1'] at cP
  have hS := putL_size hfo
  have hGL := fun z hz => get_laid hfo z hz
  have hSU := put_toL hfo hgo
  replace hSU := Lib.hid hSU
  replace hGL := Lib.hid hGL
  obtain ⟨S, hS'⟩ : ∃ S, putL x = S := ⟨_, rfl⟩
  rw [hS'] at cP hS hGL hSU
  clear e1' hS' hfo
  unfold Lbl.v at cP
  have ⟨e0, e1, e2, e3, e4, e5, e6, e7, e8, elt⟩ := X5
  go_wp2_with (fail)
  refine cP.mono ?_
  rintro e w6 ⟨rfl, b6⟩
  clear e0 e1 e2 e3 e4 e5 e6 e7 e8 elt cP
  have X6 := X5.below b6 X5.lt
  have Y6 := Y5.below b6 Y5.lt
  have L6 := L5.below b6
  have L6' := L5'.below b6
  have B6 := below_c B5 b6
  clear X5 Y5 L5 L5' B5 b6
  have cP := lput_any y _ _ _ w6 L6
  have e1' : putE y = 0 := by unfold putE; rw [if_pos hgo]
  rw [e1'] at cP
  obtain ⟨U, hU'⟩ : ∃ S, putL y = S := ⟨_, rfl⟩
  rw [hU'] at cP hSU
  clear e1' hU' hgo
  unfold Lbl.v at cP
  have ⟨e0, e1, e2, e3, e4, e5, e6, e7, e8, elt⟩ := Y6
  go_wp2_with (fail)
  refine cP.mono ?_
  rintro e w7 ⟨rfl, b7⟩
  clear e0 e1 e2 e3 e4 e5 e6 e7 e8 elt cP
  have X7 := X6.below b7 X6.lt
  have Y7 := Y6.below b7 Y6.lt
  have L7 := L6.below b7
  have L7' := L6'.below b7
  have B7 := below_c B6 b7
  clear X6 Y6 L6 L6' B6 b7
  have hpk := pk_rng c 100 (by omega)
  have cQ := pick10_any c 100 w7 (by omega) (by omega) (by omega) (by omega)
  obtain ⟨m, hm⟩ : ∃ m : Nat, pk c 100 = (m : Int) := ⟨(pk c 100).toNat, by omega⟩
  rw [hm] at cQ hpk
  clear hm
  obtain ⟨w8, hmk, ho8, b8, _⟩ := BRow.make_run w7 m (by omega)
  have hcv := ho8.str m m (by simp)
  have hz := zero_nought m
  have hzl : (lineOf (List.replicate m 0)).size = m := by rw [lineOf_size]; simp
  have hgl := hGL.out _ hz
  generalize lineOf (List.replicate m 0) = Z at *
  have hss : S.size + Z.size ≤ 300 := by omega
  have hst : (S ++ Z).size ≤ 300 := by rw [ByteArray.size_append]; omega
  have cG := lget_any (S ++ Z) w8 (by omega)
  have e1' : getE (S ++ Z) = 0 := by unfold getE; rw [if_pos hgl.1]
  rw [hgl.2, e1'] at cG
  clear hz hzl e1' hgl hGL
  have X8 := X7.below b8 X7.lt
  have Y8 := Y7.below b8 Y7.lt
  have L8 := L7.below b8
  have L8' := L7'.below b8
  have B8 := below_c B7 b8
  clear X7 Y7 L7 L7' B7 b8
  go_wp2_with (fail)
  refine cQ.mono ?_
  rintro e w' ⟨rfl, rfl⟩
  clear cQ
  go_wp2_with (fail)
  refine cG.mono ?_
  rintro e w9 ⟨va, vb', vc', rfl, L9, b9⟩
  clear cG hmk hcv ho8
  obtain ⟨g1, h1, ev⟩ := L9.s.isSlice
  obtain ⟨n1, hn1⟩ : ∃ n, (List.map (Value.int .i64) x.st).length = n := ⟨_, rfl⟩
  rw [hn1] at ev
  subst ev
  obtain ⟨g2, h2, ev⟩ := L9.b.isSlice
  obtain ⟨n2, hn2⟩ : ∃ n, (List.map (Value.int .i64) x.bo).length = n := ⟨_, rfl⟩
  rw [hn2] at ev
  subst ev
  obtain ⟨g3, h3, ev⟩ := L9.c.isSlice
  obtain ⟨n3, hn3⟩ : ∃ n, (List.map (Value.int .i64) x.cu).length = n := ⟨_, rfl⟩
  rw [hn3] at ev
  subst ev
  clear hn1 hn2 hn3
  have X9 := X8.below b9 X8.lt
  have Y9 := Y8.below b9 Y8.lt
  have K9 := L8.below b9
  have K9' := L8'.below b9
  have B9 := below_c B8 b9
  clear X8 Y8 L8 L8' B8 b9
  have Z10 := LblAt.made w9 x (.slice g1 n1 h1) (.slice g2 n2 h2) (.slice g3 n3 h3) 26
  have bk : Below w9.heap.size w9 (w9.alloc (.cells #[.int .i64 x.i, .int .i64 x.s, .int .i64 x.g, .int .i64 x.k, .int .i64 x.m, .int .i64 x.b, .slice g1 n1 h1, .slice g2 n2 h2, .slice g3 n3 h3] 26)) := (Below.refl _ _).alloc (Nat.le_refl _) _
  simp only [Lbl.v]
  go_upto_region 7 with (fail)
  have X10 := X9.below bk X9.lt
  have Y10 := Y9.below bk Y9.lt
  have K10 := K9.below bk
  have K10' := K9'.below bk
  have L10 := L9.below bk
  have B10 := below_c B9 bk
  clear X9 Y9 K9 K9' L9 B9 bk
  generalize w9.alloc (.cells #[.int .i64 x.i, .int .i64 x.s, .int .i64 x.g, .int .i64 x.k, .int .i64 x.m, .int .i64 x.b, .slice g1 n1 h1, .slice g2 n2 h2, .slice g3 n3 h3] 26) = w10 at *
  obtain ⟨o, ho⟩ : ∃ q, w9.heap.size = q := ⟨_, rfl⟩
  rw [ho] at Z10 ⊢
  clear ho
  have cS := lsame_any x x _ _ _ _ _ _ w10 L10 K10'
  rw [decide_eq_true (Eq.refl x)] at cS
  have cR : ∀ W, Below w10.heap.size w10 W → Calls Tryd.prog 18 #[.agg #[.int .i64 x.i, .int .i64 x.s, .int .i64 x.g, .int .i64 x.k, .int .i64 x.m, .int .i64 x.b, .slice a1 N d1, .slice a2 N d2, .slice a3 N d3], .agg #[.int .i64 y.i, .int .i64 y.s, .int .i64 y.g, .int .i64 y.k, .int .i64 y.m, .int .i64 y.b, .slice b1 M d4, .slice b2 M d5, .slice b3 M d6]] W fun e w' => e = .returned (.bool (decide (x = y))) ∧ Below W.heap.size W w' := fun W h => rsame_any x y _ _ _ _ _ _ W (K10'.below h) (K10.below h)
  have t1 : ((S.toList == U.toList) == decide (x = y)) = true := by rw [hSU.out]; simp
  generalize decide (x = y) = D at *
  have t2 : (S.size : Int) ≤ 120 := by omega
  have ⟨i0, i1, i2, i3, i4, i5, i6, i7, i8, ilt⟩ := X10
  have ⟨k0, k1, k2, k3, k4, k5, k6, k7, k8, klt⟩ := Z10
  unfold Lbl.v at cS
  clear hSU K10 K10' L10
  go_wp2_with (fail)
  refine cS.mono ?_
  rintro e w11 ⟨rfl, b11⟩
  have X11 := X10.below b11 ilt
  have Y11 := Y10.below b11 Y10.lt
  have B11 := below_c B10 b11
  clear i0 i1 i2 i3 i4 i5 i6 i7 i8 ilt k0 k1 k2 k3 k4 k5 k6 k7 k8 klt X10 Y10 Z10 cS B10
  have cT := cR w11 b11
  clear cR
  have ⟨i0, i1, i2, i3, i4, i5, i6, i7, i8, ilt⟩ := X11
  have ⟨k0, k1, k2, k3, k4, k5, k6, k7, k8, klt⟩ := Y11
  go_wp2_with (fail)
  refine cT.mono ?_
  rintro e w12 ⟨rfl, b12⟩
  have B12 := below_c B11 b12
  clear i0 i1 i2 i3 i4 i5 i6 i7 i8 ilt k0 k1 k2 k3 k4 k5 k6 k7 k8 klt X11 Y11 cT B11 b11 b12
  go_wp2_with (fail)
  go_ret
  exact ⟨rfl, B12⟩
end Go.Proofs.YtaopknddpagjeaaDoor
