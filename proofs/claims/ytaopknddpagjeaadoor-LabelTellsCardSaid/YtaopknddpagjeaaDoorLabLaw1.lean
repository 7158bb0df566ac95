/- label: LabelTells. -/
import Derived.Test.YtaopknddpagjeaaDoorLabAwake
import Derived.BigQuiet
import Derived.Deep.QuietTactic
namespace Go.Proofs.YtaopknddpagjeaaDoor
open Go.RowKit
set_option linter.unusedVariables false
set_option linter.unusedSimpArgs false
open Lb

set_option maxRecDepth 100000 in
set_option maxHeartbeats 3000000 in
theorem ltells_walk (x y : Lbl) (vs vb vc us ub uc : Value) (s : ByteArray) (w : World) (hx : LR w x vs vb vc) (hy : LR w y us ub uc) (hs : s.size ≤ 140737488351232) :
    Calls Tryd.prog 3 #[x.v vs vb vc, y.v us ub uc, .string s] w (Tells w (.bool true)) := by
  have A0 := (LblAt.made w x vs vb vc 26).below (B := w.heap.size + 1) ((Below.refl _ _).alloc (by simp) (.cells #[.int .i64 y.i, .int .i64 y.s, .int .i64 y.g, .int .i64 y.k, .int .i64 y.m, .int .i64 y.b, us, ub, uc] 26)) (by omega)
  have C0 := LblAt.made (w.alloc (.cells #[.int .i64 x.i, .int .i64 x.s, .int .i64 x.g, .int .i64 x.k, .int .i64 x.m, .int .i64 x.b, vs, vb, vc] 26)) y us ub uc 26
  have B0 : Below w.heap.size w ((w.alloc (.cells #[.int .i64 x.i, .int .i64 x.s, .int .i64 x.g, .int .i64 x.k, .int .i64 x.m, .int .i64 x.b, vs, vb, vc] 26)).alloc (.cells #[.int .i64 y.i, .int .i64 y.s, .int .i64 y.g, .int .i64 y.k, .int .i64 y.m, .int .i64 y.b, us, ub, uc] 26)) := ((Below.refl _ _).alloc (Nat.le_refl _) _).alloc (by simp) _
  rw [show (w.alloc (.cells #[.int .i64 x.i, .int .i64 x.s, .int .i64 x.g, .int .i64 x.k, .int .i64 x.m, .int .i64 x.b, vs, vb, vc] 26)).heap.size = w.heap.size + 1 by simp] at C0
  unfold Lbl.v
  go_enter Tryd.func3, Tryd.ntmps3
  go_upto_region 1 with (fail)
  generalize ((w.alloc (.cells #[.int .i64 x.i, .int .i64 x.s, .int .i64 x.g, .int .i64 x.k, .int .i64 x.m, .int .i64 x.b, vs, vb, vc] 26)).alloc (.cells #[.int .i64 y.i, .int .i64 y.s, .int .i64 y.g, .int .i64 y.k, .int .i64 y.m, .int .i64 y.b, us, ub, uc] 26)) = w0 at *
  obtain ⟨p, hp⟩ : ∃ p, w.heap.size = p := ⟨_, rfl⟩
  rw [hp] at A0 C0 ⊢
  go_wp2_with (fail)
  refine (awake10_any w0).mono ?_
  rintro e w1 ⟨rfl, b1⟩
  have A1 := A0.below b1 A0.lt
  have C1 := C0.below b1 C0.lt
  have B1 := below_c B0 b1
  clear A0 C0 B0 b1
  have cP := lput_any x vs vb vc w1 (hx.below B1)
  obtain ⟨S, hS⟩ : ∃ S, putL x = S := ⟨_, rfl⟩
  obtain ⟨E, hE⟩ : ∃ E, putE x = E := ⟨_, rfl⟩
  rw [hS, hE] at cP
  unfold Lbl.v at cP
  have a0 := A1.c0
  have a1 := A1.c1
  have a2 := A1.c2
  have a3 := A1.c3
  have a4 := A1.c4
  have a5 := A1.c5
  have a6 := A1.c6
  have a7 := A1.c7
  have a8 := A1.c8
  go_wp2_with (fail)
  refine cP.mono ?_
  rintro e w2 ⟨rfl, b2⟩
  have A2 := A1.below b2 A1.lt
  have C2 := C1.below b2 C1.lt
  have B2 := below_c B1 b2
  clear A1 C1 B1 b2 cP
  clear a0 a1 a2 a3 a4 a5 a6 a7 a8
  have cP := rput_any x vs vb vc w2 (hx.below B2)
  rw [hS, hE] at cP
  unfold Lbl.v at cP
  have a0 := A2.c0
  have a1 := A2.c1
  have a2 := A2.c2
  have a3 := A2.c3
  have a4 := A2.c4
  have a5 := A2.c5
  have a6 := A2.c6
  have a7 := A2.c7
  have a8 := A2.c8
  go_wp2_with (fail)
  refine cP.mono ?_
  rintro e w3 ⟨rfl, b3⟩
  have A3 := A2.below b3 A2.lt
  have C3 := C2.below b3 C2.lt
  have B3 := below_c B2 b3
  clear A2 C2 B2 b3 cP
  clear a0 a1 a2 a3 a4 a5 a6 a7 a8
  have cG := lget_any s w3 (by omega)
  have cH := fun W => rget_any s W (by omega)
  obtain ⟨G, hG⟩ : ∃ G, getL s = G := ⟨_, rfl⟩
  obtain ⟨F, hF⟩ : ∃ F, getE s = F := ⟨_, rfl⟩
  simp only [hG, hF] at cG cH
  clear hG hF hS hE
  go_wp2_with (fail)
  refine cG.mono ?_
  rintro e w4 ⟨va, vb', vc', rfl, L4, b4⟩
  obtain ⟨a1, c1, ev⟩ := L4.s.isSlice
  obtain ⟨n1, hn1⟩ : ∃ n, (List.map (Value.int .i64) G.st).length = n := ⟨_, rfl⟩
  rw [hn1] at ev
  subst ev
  obtain ⟨a2, c2, ev⟩ := L4.b.isSlice
  obtain ⟨n2, hn2⟩ : ∃ n, (List.map (Value.int .i64) G.bo).length = n := ⟨_, rfl⟩
  rw [hn2] at ev
  subst ev
  obtain ⟨a3, c3, ev⟩ := L4.c.isSlice
  obtain ⟨n3, hn3⟩ : ∃ n, (List.map (Value.int .i64) G.cu).length = n := ⟨_, rfl⟩
  rw [hn3] at ev
  subst ev
  clear hn1 hn2 hn3
  have A4 := A3.below b4 A3.lt
  have C4 := C3.below b4 C3.lt
  have B4 := below_c B3 b4
  clear A3 C3 B3 b4 cG
  simp only [Lbl.v]
  have K4 := LblAt.made w4 G (.slice a1 n1 c1) (.slice a2 n2 c2) (.slice a3 n3 c3) 26
  have bk : Below w4.heap.size w4 (w4.alloc (.cells #[.int .i64 G.i, .int .i64 G.s, .int .i64 G.g, .int .i64 G.k, .int .i64 G.m, .int .i64 G.b, .slice a1 n1 c1, .slice a2 n2 c2, .slice a3 n3 c3] 26)) := (Below.refl _ _).alloc (Nat.le_refl _) _
  go_upto_region 5 with (fail)
  have A5 := A4.below bk A4.lt
  have C5 := C4.below bk C4.lt
  have L5 := L4.below bk
  have B5 := below_c B4 bk
  clear A4 C4 B4 bk L4
  generalize w4.alloc (.cells #[.int .i64 G.i, .int .i64 G.s, .int .i64 G.g, .int .i64 G.k, .int .i64 G.m, .int .i64 G.b, .slice a1 n1 c1, .slice a2 n2 c2, .slice a3 n3 c3] 26) = w5 at *
  obtain ⟨q, hq⟩ : ∃ q, w4.heap.size = q := ⟨_, rfl⟩
  rw [hq] at K4 ⊢
  clear hq
  go_wp2_with (fail)
  refine (cH w5).mono ?_
  rintro e w6 ⟨va, vb', vc', rfl, L6, b6⟩
  obtain ⟨b1, d1, ev⟩ := L6.s.isSlice
  obtain ⟨m1, hn1⟩ : ∃ n, (List.map (Value.int .i64) G.st).length = n := ⟨_, rfl⟩
  rw [hn1] at ev
  subst ev
  obtain ⟨b2, d2, ev⟩ := L6.b.isSlice
  obtain ⟨m2, hn2⟩ : ∃ n, (List.map (Value.int .i64) G.bo).length = n := ⟨_, rfl⟩
  rw [hn2] at ev
  subst ev
  obtain ⟨b3, d3, ev⟩ := L6.c.isSlice
  obtain ⟨m3, hn3⟩ : ∃ n, (List.map (Value.int .i64) G.cu).length = n := ⟨_, rfl⟩
  rw [hn3] at ev
  subst ev
  clear hn1 hn2 hn3
  have A6 := A5.below b6 A5.lt
  have C6 := C5.below b6 C5.lt
  have K6 := K4.below b6 K4.lt
  replace L5 := L5.below b6
  have B6 := below_c B5 b6
  clear A5 C5 B5 b6 cH K4
  simp only [Lbl.v]
  have M6 := LblAt.made w6 G (.slice b1 m1 d1) (.slice b2 m2 d2) (.slice b3 m3 d3) 26
  have bk : Below w6.heap.size w6 (w6.alloc (.cells #[.int .i64 G.i, .int .i64 G.s, .int .i64 G.g, .int .i64 G.k, .int .i64 G.m, .int .i64 G.b, .slice b1 m1 d1, .slice b2 m2 d2, .slice b3 m3 d3] 26)) := (Below.refl _ _).alloc (Nat.le_refl _) _
  go_upto_region 6 with (fail)
  have A7 := A6.below bk A6.lt
  have C7 := C6.below bk C6.lt
  have K7 := K6.below bk K6.lt
  replace L5 := L5.below bk
  replace L6 := L6.below bk
  have B7 := below_c B6 bk
  clear A6 C6 B6 bk K6
  generalize w6.alloc (.cells #[.int .i64 G.i, .int .i64 G.s, .int .i64 G.g, .int .i64 G.k, .int .i64 G.m, .int .i64 G.b, .slice b1 m1 d1, .slice b2 m2 d2, .slice b3 m3 d3] 26) = w7 at *
  obtain ⟨u, hu⟩ : ∃ q, w6.heap.size = q := ⟨_, rfl⟩
  rw [hu] at M6 ⊢
  clear hu
  have X7 := hx.below B7
  have Y7 := hy.below B7
  have d1' : ∀ W, Below w7.heap.size w7 W → Calls Tryd.prog 15 #[.agg #[.int .i64 x.i, .int .i64 x.s, .int .i64 x.g, .int .i64 x.k, .int .i64 x.m, .int .i64 x.b, vs, vb, vc]] W fun e w' => e = .returned (.bool (rightB x)) ∧ Below W.heap.size W w' := fun W h => lright_any x vs vb vc W (X7.below h)
  have d2' : ∀ W, Below w7.heap.size w7 W → Calls Tryd.prog 16 #[.agg #[.int .i64 x.i, .int .i64 x.s, .int .i64 x.g, .int .i64 x.k, .int .i64 x.m, .int .i64 x.b, vs, vb, vc]] W fun e w' => e = .returned (.bool (rightB x)) ∧ Below W.heap.size W w' := fun W h => rright10_any x vs vb vc W (X7.below h)
  have d3' : ∀ W, Below w7.heap.size w7 W → Calls Tryd.prog 17 #[.agg #[.int .i64 x.i, .int .i64 x.s, .int .i64 x.g, .int .i64 x.k, .int .i64 x.m, .int .i64 x.b, vs, vb, vc], .agg #[.int .i64 y.i, .int .i64 y.s, .int .i64 y.g, .int .i64 y.k, .int .i64 y.m, .int .i64 y.b, us, ub, uc]] W fun e w' => e = .returned (.bool (decide (x = y))) ∧ Below W.heap.size W w' := fun W h => lsame_any x y vs vb vc us ub uc W (X7.below h) (Y7.below h)
  have d4' : ∀ W, Below w7.heap.size w7 W → Calls Tryd.prog 18 #[.agg #[.int .i64 x.i, .int .i64 x.s, .int .i64 x.g, .int .i64 x.k, .int .i64 x.m, .int .i64 x.b, vs, vb, vc], .agg #[.int .i64 y.i, .int .i64 y.s, .int .i64 y.g, .int .i64 y.k, .int .i64 y.m, .int .i64 y.b, us, ub, uc]] W fun e w' => e = .returned (.bool (decide (x = y))) ∧ Below W.heap.size W w' := fun W h => rsame_any x y vs vb vc us ub uc W (X7.below h) (Y7.below h)
  have d5' : ∀ W, Below w7.heap.size w7 W → Calls Tryd.prog 17 #[.agg #[.int .i64 x.i, .int .i64 x.s, .int .i64 x.g, .int .i64 x.k, .int .i64 x.m, .int .i64 x.b, vs, vb, vc], .agg #[.int .i64 x.i, .int .i64 x.s, .int .i64 x.g, .int .i64 x.k, .int .i64 x.m, .int .i64 x.b, vs, vb, vc]] W fun e w' => e = .returned (.bool true) ∧ Below W.heap.size W w' := fun W h => by have := lsame_any x x vs vb vc vs vb vc W (X7.below h) (X7.below h); rw [decide_eq_true (Eq.refl x)] at this; exact this
  have d6' : ∀ W, Below w7.heap.size w7 W → Calls Tryd.prog 18 #[.agg #[.int .i64 G.i, .int .i64 G.s, .int .i64 G.g, .int .i64 G.k, .int .i64 G.m, .int .i64 G.b, .slice a1 n1 c1, .slice a2 n2 c2, .slice a3 n3 c3], .agg #[.int .i64 G.i, .int .i64 G.s, .int .i64 G.g, .int .i64 G.k, .int .i64 G.m, .int .i64 G.b, .slice b1 m1 d1, .slice b2 m2 d2, .slice b3 m3 d3]] W fun e w' => e = .returned (.bool true) ∧ Below W.heap.size W w' := fun W h => by have := rsame_any G G _ _ _ _ _ _ W (L5.below h) (L6.below h); rw [decide_eq_true (Eq.refl G)] at this; exact this
  generalize rightB x = R at *
  generalize decide (x = y) = D at *
  have t1 : (R == R) = true := by cases R <;> rfl
  have t2 : (D == D) = true := by cases D <;> rfl
  have t3 : (S.toList == S.toList) = true := by simp
  have t4 : (E == E) = true := by simp
  have t5 : (F == F) = true := by simp
  clear X7 Y7 L5 L6 hx hy
  go_wp2_with (fail)
  refine wp_region_cls (Below w7.heap.size w7) (by kernel_rfl) (by kernel_rfl) (Below.refl _ _).drew ?_
  intro Z f hne hD hE
  obtain ⟨i0, i1, i2, i3, i4, i5, i6, i7, i8⟩ := A7.cls hD
  obtain ⟨j0, j1, j2, j3, j4, j5, j6, j7, j8⟩ := C7.cls hD
  obtain ⟨k0, k1, k2, k3, k4, k5, k6, k7, k8⟩ := K7.cls hD
  obtain ⟨l0, l1, l2, l3, l4, l5, l6, l7, l8⟩ := M6.cls hD
  clear A7 C7 K7 M6
  iterate 43 (go_big_quiet_step (first | (go_at_call 15; with_reducible exact toQB hD hE _ (d1' _ (hD _))) | (go_at_call 16; with_reducible exact toQB hD hE _ (d2' _ (hD _))) | (go_at_call 17; first | with_reducible exact toQB hD hE _ (d3' _ (hD _)) | with_reducible exact toQB hD hE _ (d5' _ (hD _))) | (go_at_call 18; first | with_reducible exact toQB hD hE _ (d4' _ (hD _)) | with_reducible exact toQB hD hE _ (d6' _ (hD _)))))
  refine wpQuiet_nil ?_
  intro _ hw'
  obtain ⟨zq, hw''⟩ := hw'
  subst hw''
  have B8 := below_c B7 (hD zq)
  clear hE i0 i1 i2 i3 i4 i5 i6 i7 i8 j0 j1 j2 j3 j4 j5 j6 j7 j8 k0 k1 k2 k3 k4 k5 k6 k7 k8 l0 l1 l2 l3 l4 l5 l6 l7 l8
  go_wp2_with (fail)
  go_ret
  exact ⟨rfl, B8⟩
end Go.Proofs.YtaopknddpagjeaaDoor
