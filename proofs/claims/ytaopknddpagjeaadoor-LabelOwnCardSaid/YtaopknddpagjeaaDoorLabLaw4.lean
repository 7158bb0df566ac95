/- label: LabelOwn, walked. -/
import Derived.Test.YtaopknddpagjeaaDoorLabFamM
import Derived.Test.YtaopknddpagjeaaDoorLabAwake
import Derived.BigQuiet
import Derived.Deep.QuietTactic
namespace Go.Proofs.YtaopknddpagjeaaDoor
open Go.RowKit
set_option linter.unusedVariables false
set_option linter.unusedSimpArgs false
open Lb

/-- Three rows, whatever they hold. -/
def Rows3 (W : World) (B n ga ca gb cb gc cc : Nat) : Prop := ∃ la lb lc : List Value, la.length = n ∧ lb.length = n ∧ lc.length = n ∧ Own W B 3 (.slice (some ⟨ga, 0, none⟩) n ca) la ∧ Own W B 3 (.slice (some ⟨gb, 0, none⟩) n cb) lb ∧ Own W B 3 (.slice (some ⟨gc, 0, none⟩) n cc) lc
theorem Own.off {w : World} {B g n c : Nat} {xs : List Value} (h : Own w B 3 (.slice (some ⟨g, 0, none⟩) n c) xs) {p o : Nat} (hne : g ≠ p) (u : Value) : Own (w.setCell ⟨p, o, none⟩ u) B 3 (.slice (some ⟨g, 0, none⟩) n c) xs := h.setOther (a := ⟨p, o, none⟩) (by simpa [Value.ownBlock] using hne) u
theorem Rows3.lt {W : World} {B n ga ca gb cb gc cc : Nat} (h : Rows3 W B n ga ca gb cb gc cc) : (B ≤ ga ∧ ga < W.heap.size) ∧ (B ≤ gb ∧ gb < W.heap.size) ∧ B ≤ gc ∧ gc < W.heap.size := by
  obtain ⟨la, lb, lc, _, _, _, h1, h2, h3⟩ := h
  exact ⟨h1.lt, h2.lt, h3.lt⟩
theorem Rows3.set {W : World} {B n ga ca gb cb gc cc : Nat} (h : Rows3 W B n ga ca gb cb gc cc) (h1 : ga ≠ gb) (h2 : ga ≠ gc) (h3 : gb ≠ gc) {k : Nat} (u v z : Value) :
    Rows3 (((W.setCell ⟨ga, k, none⟩ u).setCell ⟨gb, k, none⟩ v).setCell ⟨gc, k, none⟩ z) B n ga ca gb cb gc cc := by
  obtain ⟨la, lb, lc, e1, e2, e3, o1, o2, o3⟩ := h
  exact ⟨la.set k u, lb.set k v, lc.set k z, by simpa using e1, by simpa using e2, by simpa using e3, ((o1.set k u).off h1 v).off h2 z, ((o2.off h1.symm u).set k v).off h3 z, ((o3.off h2.symm u).off h3.symm v).set k z⟩
theorem Rows3.cells {W : World} {B n ga ca gb cb gc cc : Nat} (h : Rows3 W B n ga ca gb cb gc cc) (h1 : ga ≠ gb) (h2 : ga ≠ gc) (h3 : gb ≠ gc) {k : Nat} (hk : k < n) (u v : Value) :
    (∃ c, W.cell? ⟨ga, k, none⟩ = some c) ∧ (∃ c, (W.setCell ⟨ga, k, none⟩ u).cell? ⟨gb, k, none⟩ = some c) ∧ (∃ c, ((W.setCell ⟨ga, k, none⟩ u).setCell ⟨gb, k, none⟩ v).cell? ⟨gc, k, none⟩ = some c) ∧
    W.frozen? ⟨ga, k, none⟩ = false ∧ (W.setCell ⟨ga, k, none⟩ u).frozen? ⟨gb, k, none⟩ = false ∧ ((W.setCell ⟨ga, k, none⟩ u).setCell ⟨gb, k, none⟩ v).frozen? ⟨gc, k, none⟩ = false := by
  obtain ⟨la, lb, lc, e1, e2, e3, o1, o2, o3⟩ := h
  have p2 := o2.off h1.symm (o := k) u
  have p3 := (o3.off h2.symm (o := k) u).off h3.symm (o := k) v
  exact ⟨⟨_, o1.cell (i := k) (by omega)⟩, ⟨_, p2.cell (i := k) (by omega)⟩, ⟨_, p3.cell (i := k) (by omega)⟩, o1.frozen k, p2.frozen k, p3.frozen k⟩
theorem O3.rows {w : World} {B n ga ca gb cb gc cc : Nat} {x : Lbl} (h : O3 w B x (.slice (some ⟨ga, 0, none⟩) n ca) (.slice (some ⟨gb, 0, none⟩) n cb) (.slice (some ⟨gc, 0, none⟩) n cc)) (h1 : x.st.length = n) (h2 : x.bo.length = n) (h3 : x.cu.length = n) :
    Rows3 w B n ga ca gb cb gc cc ∧ ga ≠ gb ∧ ga ≠ gc ∧ gb ≠ gc :=
  ⟨⟨_, _, _, by simpa using h1, by simpa using h2, by simpa using h3, h.a, h.b, h.c⟩, fun e => h.ab ga rfl (by rw [e]; rfl), fun e => h.ac ga rfl (by rw [e]; rfl), fun e => h.bc gb rfl (by rw [e]; rfl)⟩
set_option maxRecDepth 100000 in
set_option maxHeartbeats 4000000 in
theorem lown_walk (r : Lbl) (vs vb vc : Value) (gens : List Int) (v : Value) (w : World) (hx : LR w r vs vb vc) (hn : NumsOk r) (hl : Reads w v (gens.map (.int .i64))) (hl1 : ∀ n ∈ gens, -9223372036854775808 ≤ n ∧ n ≤ 9223372036854775807) (hl2 : gens.length ≤ 140737488355328) :
    Calls Tryd.prog 8 #[r.v vs vb vc, v] w (Tells w (.bool true)) := by
  have A0 : LblBox (w.alloc (.cells #[.int .i64 r.i, .int .i64 r.s, .int .i64 r.g, .int .i64 r.k, .int .i64 r.m, .int .i64 r.b, vs, vb, vc] 36)) w.heap.size r vs vb vc := ⟨LblAt.made w r vs vb vc 36, fun o => frozen_of_row _ _ _ _ _ (heap_alloc_new _ _)⟩
  have B0 : Below w.heap.size w (w.alloc (.cells #[.int .i64 r.i, .int .i64 r.s, .int .i64 r.g, .int .i64 r.k, .int .i64 r.m, .int .i64 r.b, vs, vb, vc] 36)) := (Below.refl _ _).alloc (Nat.le_refl _) _
  have gg := pk_rng r.g 549755813888 (by omega)
  unfold Lbl.v
  go_enter Tryd.func8, Tryd.ntmps8
  go_upto_region 1 with (fail)
  generalize w.alloc (.cells #[.int .i64 r.i, .int .i64 r.s, .int .i64 r.g, .int .i64 r.k, .int .i64 r.m, .int .i64 r.b, vs, vb, vc] 36) = w0 at *
  obtain ⟨p, hp⟩ : ∃ p, w.heap.size = p := ⟨_, rfl⟩
  rw [hp] at A0 B0 ⊢
  replace hp := Lib.hid hp
  go_wp2_with (fail)
  refine (awake10_any w0).mono ?_
  rintro e w1 ⟨rfl, b1⟩
  have A1 := A0.below b1 A0.a.lt
  have B1 := B0.trans (b1.mono (Nat.le_of_lt A0.a.lt))
  clear A0 B0 b1
  have a2 := A1.a.c2
  have f2 := A1.f 2
  have la := A1.a.lt
  go_wp2_with (fail)
  refine (pick10_any r.g 549755813888 w1 hn.g.1 hn.g.2 (by omega) (by omega)).mono ?_
  rintro e w' ⟨rfl, rfl⟩
  have A2 := A1.num2 (pk r.g 549755813888)
  have B2 := B1.setCell (p := ⟨p, 2, none⟩) (Nat.le_refl p) (.int .i64 (pk r.g 549755813888))
  have hn1 : NumsOk { r with g := pk r.g 549755813888 } := ⟨hn.i, hn.s, ⟨by show _ ≤ pk r.g 549755813888; omega, by show pk r.g 549755813888 ≤ _; omega⟩, hn.k, hn.m, hn.b, hn.st, hn.bo, hn.cu⟩
  clear hn
  go_upto_region 3 with (fail)
  clear A1 B1 f2 a2
  generalize w1.setCell ⟨p, 2, none⟩ (.int .i64 (pk r.g 549755813888)) = w2 at *
  have bw2 : Below w.heap.size w w2 := by rw [hp.out]; exact B2
  have L2 : LR w2 { r with g := pk r.g 549755813888 } vs vb vc := by
    have := hx.below bw2
    exact ⟨this.s, this.b, this.c, this.ls, this.lb, this.lc⟩
  have q2 : 0 ≤ ({ r with g := pk r.g 549755813888 } : Lbl).g ∧ ({ r with g := pk r.g 549755813888 } : Lbl).g < 549755813888 := gg
  have cF2 := family_any { r with g := pk r.g 549755813888 } vs vb vc gens v w2 L2 hn1 (hl.below bw2) hl1 hl2
  clear hx gg hn1 L2 hl hl1 hl2
  generalize ({ r with g := pk r.g 549755813888 } : Lbl) = q at *
  have hfs : (fitL q).g < 1099511627776 := by rw [fit_small q q2]; omega
  have hfo := fit_ok q
  have ⟨e0, e1, e2, e3, e4, e5, e6, e7, e8, elt⟩ := A2.a
  unfold Lbl.v at cF2
  go_wp2_with (fail)
  refine cF2.mono ?_
  rintro e w3 hg
  obtain ⟨v3, l, rfl, hF, hM, b3⟩ := hg.fam hfo
  clear hg cF2 e0 e1 e2 e3 e4 e5 e6 e7 e8 A2
  generalize fitL q = x at *
  have B3 : Below w.heap.size w w3 := bw2.trans (b3.mono bw2.size)
  clear bw2 B2 b3
  have hR3 := hM.reads hF.lens
  have hnat := hF.nat
  have hn7 : x.st.length ≤ 7 := hnat.2.2.1
  obtain ⟨n, hN⟩ : ∃ n, x.st.length = n := ⟨_, rfl⟩
  rw [hN] at hF hnat hn7
  have hn2 : 2 ≤ n := hnat.2.1
  have hll := hF.len
  have cC := choose_any x.i v3 l w3 hR3 (by omega)
  obtain ⟨b, hb, _, hc1, hc2, hc3⟩ := hF.best
  rw [hc1, hc2, hc3] at cC
  have hyr := hF.right hb
  have hyl : l[b].x.st.length = n ∧ l[b].x.bo.length = n ∧ l[b].x.cu.length = n := by rw [hF.at_ hb]; exact ⟨hN, hnat.2.2.2.1, hnat.2.2.2.2⟩
  have hyg : l[b].x.g < 1099511627776 := by rw [hF.at_ hb]; have := (famX_ok hF.r gens (i := b) (by rw [hN]; omega)).2.2; omega
  have hul : (uses x.i l b).length = n := by rw [uses_len]; exact hll
  clear hnat
  have hrt : Hid (∀ i (hi : i < l.length), rightB l[i].x = true) := Lib.hid fun i hi => hF.right hi
  generalize l[b].x = y at *
  generalize uses x.i l b = us at *
  clear hc1 hc2 hc3 hF hb
  obtain ⟨fa, fc, rfl, _⟩ := id hR3
  rw [hll] at hM hR3 cC ⊢
  replace hR3 := Lib.hid hR3
  clear hM
  go_wp2_with (fail)
  refine cC.mono ?_
  rintro e w4 ⟨va, vb', vc', vu, rfl, O4, oU, b4⟩
  clear cC
  obtain ⟨a1, d1, rfl, _⟩ := O4.a.form (by simp; omega)
  obtain ⟨a2, d2, rfl, _⟩ := O4.b.form (by simp; omega)
  obtain ⟨a3, d3, rfl, _⟩ := O4.c.form (by simp; omega)
  obtain ⟨ua, ud, rfl⟩ := oU.isSlice
  rw [List.length_map] at O4 oU ⊢
  simp only [List.length_map, hyl.1, hyl.2.1, hyl.2.2, hul] at O4 oU ⊢
  have Y4 : LblBox (w4.alloc (.cells #[.int .i64 y.i, .int .i64 y.s, .int .i64 y.g, .int .i64 y.k, .int .i64 y.m, .int .i64 y.b, .slice (some ⟨a1, 0, none⟩) n d1, .slice (some ⟨a2, 0, none⟩) n d2, .slice (some ⟨a3, 0, none⟩) n d3] 26)) w4.heap.size y (.slice (some ⟨a1, 0, none⟩) n d1) (.slice (some ⟨a2, 0, none⟩) n d2) (.slice (some ⟨a3, 0, none⟩) n d3) := ⟨LblAt.made w4 y (.slice (some ⟨a1, 0, none⟩) n d1) (.slice (some ⟨a2, 0, none⟩) n d2) (.slice (some ⟨a3, 0, none⟩) n d3) 26, fun o => frozen_of_row _ _ _ _ _ (heap_alloc_new _ _)⟩
  have bk : Below w4.heap.size w4 (w4.alloc (.cells #[.int .i64 y.i, .int .i64 y.s, .int .i64 y.g, .int .i64 y.k, .int .i64 y.m, .int .i64 y.b, .slice (some ⟨a1, 0, none⟩) n d1, .slice (some ⟨a2, 0, none⟩) n d2, .slice (some ⟨a3, 0, none⟩) n d3] 26)) := (Below.refl _ _).alloc (Nat.le_refl _) _
  simp only [Lbl.v]
  go_upto_region 5 with (fail)
  have h45 := (O4.rows hyl.1 hyl.2.1 hyl.2.2).1.lt
  have O5 := O4.after bk
  have u5 := oU.after bk
  have b5 := b4.trans (bk.mono b4.size)
  have hs4 := b4.size
  clear O4 oU b4 bk
  generalize w4.alloc (.cells #[.int .i64 y.i, .int .i64 y.s, .int .i64 y.g, .int .i64 y.k, .int .i64 y.m, .int .i64 y.b, .slice (some ⟨a1, 0, none⟩) n d1, .slice (some ⟨a2, 0, none⟩) n d2, .slice (some ⟨a3, 0, none⟩) n d3] 26) = w5 at *
  obtain ⟨t, ht⟩ : ∃ t, w4.heap.size = t := ⟨_, rfl⟩
  rw [ht] at Y4 hs4 h45 ⊢
  clear ht
  replace h45 : a1 < t ∧ a2 < t ∧ a3 < t := ⟨h45.1.2, h45.2.1.2, h45.2.2.2⟩
  have hw5 : t < w5.heap.size := Y4.a.lt
  have cN := next_any y us _ _ _ _ w5 (O5.lr (by omega) (by omega) (by omega)) u5.reads (by omega)
  obtain ⟨hy1, hy2⟩ := nextL_ok hyr hyg (us := us) (by omega)
  rw [hy1, hy2] at cN
  have hzl : (nexted y us).st.length = n ∧ (nexted y us).bo.length = n ∧ (nexted y us).cu.length = n := ⟨(mask_len _ _).trans hyl.1, hyl.2.1, (mask_len _ _).trans hyl.2.2⟩
  generalize nexted y us = z at *
  clear hy1 hy2
  have ⟨e0, e1, e2, e3, e4, e5, e6, e7, e8, elt⟩ := Y4.a
  unfold Lbl.v at cN
  go_wp2_with (fail)
  refine cN.mono ?_
  rintro e w6 ⟨va, vb', vc', rfl, O6, b6⟩
  clear cN e0 e1 e2 e3 e4 e5 e6 e7 e8 elt
  obtain ⟨c1, f1, rfl, _⟩ := O6.a.form (by simp; omega)
  obtain ⟨c2, f2, rfl, _⟩ := O6.b.form (by simp; omega)
  obtain ⟨c3, f3, rfl, _⟩ := O6.c.form (by simp; omega)
  simp only [List.length_map, hzl.1, hzl.2.1, hzl.2.2] at O6 ⊢
  have Z6 : LblBox (w6.alloc (.cells #[.int .i64 z.i, .int .i64 z.s, .int .i64 z.g, .int .i64 z.k, .int .i64 z.m, .int .i64 z.b, .slice (some ⟨c1, 0, none⟩) n f1, .slice (some ⟨c2, 0, none⟩) n f2, .slice (some ⟨c3, 0, none⟩) n f3] 26)) w6.heap.size z (.slice (some ⟨c1, 0, none⟩) n f1) (.slice (some ⟨c2, 0, none⟩) n f2) (.slice (some ⟨c3, 0, none⟩) n f3) := ⟨LblAt.made w6 z (.slice (some ⟨c1, 0, none⟩) n f1) (.slice (some ⟨c2, 0, none⟩) n f2) (.slice (some ⟨c3, 0, none⟩) n f3) 26, fun o => frozen_of_row _ _ _ _ _ (heap_alloc_new _ _)⟩
  have bk : Below w6.heap.size w6 (w6.alloc (.cells #[.int .i64 z.i, .int .i64 z.s, .int .i64 z.g, .int .i64 z.k, .int .i64 z.m, .int .i64 z.b, .slice (some ⟨c1, 0, none⟩) n f1, .slice (some ⟨c2, 0, none⟩) n f2, .slice (some ⟨c3, 0, none⟩) n f3] 26)) := (Below.refl _ _).alloc (Nat.le_refl _) _
  simp only [Lbl.v]
  go_upto_region 6 with (fail)
  have O7 := O6.after bk
  have b7 : Below w5.heap.size w5 _ := b6.trans (bk.mono b6.size)
  have hs6 := b6.size
  obtain ⟨R7, hr1, hr2, hr3⟩ := O6.rows hzl.1 hzl.2.1 hzl.2.2
  have R7' := R7.lt
  replace R7 := (O7.rows hzl.1 hzl.2.1 hzl.2.2).1
  clear O6 O7 b6 bk
  generalize w6.alloc (.cells #[.int .i64 z.i, .int .i64 z.s, .int .i64 z.g, .int .i64 z.k, .int .i64 z.m, .int .i64 z.b, .slice (some ⟨c1, 0, none⟩) n f1, .slice (some ⟨c2, 0, none⟩) n f2, .slice (some ⟨c3, 0, none⟩) n f3] 26) = w7 at *
  obtain ⟨u, hu⟩ : ∃ t, w6.heap.size = t := ⟨_, rfl⟩
  rw [hu] at Z6 R7' hs6 ⊢
  clear hu
  have hc1 : c1 ≠ u := by omega
  have hc2 : c2 ≠ u := by omega
  have hc3 : c3 ≠ u := by omega
  have g1 : w5.heap.size ≤ c1 := R7'.1.1
  have g2 : w5.heap.size ≤ c2 := R7'.2.1.1
  have g3 : w5.heap.size ≤ c3 := R7'.2.2.1
  clear R7'
  go_wp2_with (fail)
  go_loopw [13] (fun i W => ∃ k : Nat, k ≤ n ∧ i = .int .i64 (k : Int) ∧ Rows3 W w5.heap.size n c1 f1 c2 f2 c3 f3 ∧ LblBox W u z (.slice (some ⟨c1, 0, none⟩) n f1) (.slice (some ⟨c2, 0, none⟩) n f2) (.slice (some ⟨c3, 0, none⟩) n f3) ∧ Below w5.heap.size w5 W) (fun i _ => n - (intOf i).toNat)
  case atStart => exact ⟨0, Nat.zero_le _, rfl, R7, Z6, b7⟩
  case round =>
    obtain ⟨k, hk, rfl, hRo, hZ, hB⟩ := hrel
    rename World => W
    clear R7 Z6 b7
    have z6 := hZ.a.c6
    have z7 := hZ.a.c7
    have z8 := hZ.a.c8
    by_cases hlt : k < n
    · have y5 : (k : Int) < (n : Int) := by omega
      obtain ⟨⟨o1, q1⟩, ⟨o2, q2⟩, ⟨o3, q3⟩, r1, r2, r3⟩ := hRo.cells hr1 hr2 hr3 hlt (.int .i64 (-1)) (.int .i64 (-1))
      have Z1 := hZ.far (u := .int .i64 (-1)) (i := k) (Ne.symm hc1)
      have Z2 := Z1.far (u := .int .i64 (-1)) (i := k) (Ne.symm hc2)
      have Zq := Z2.far (u := .int .i64 (-1)) (i := k) (Ne.symm hc3)
      have z7' := Z1.a.c7
      have z8' := Z2.a.c8
      have hset := hRo.set hr1 hr2 hr3 (k := k) (.int .i64 (-1)) (.int .i64 (-1)) (.int .i64 (-1))
      have hbs := ((hB.setCell (p := ⟨c1, k, none⟩) g1 (.int .i64 (-1))).setCell (p := ⟨c2, k, none⟩) g2 (.int .i64 (-1))).setCell (p := ⟨c3, k, none⟩) g3 (.int .i64 (-1))
      go_wp2_with (fail)
      go_roundw
      case rel => exact ⟨k + 1, by omega, by go_num, hset, Zq, hbs⟩
      case measure => simp [intOf]; omega
    · obtain rfl : k = n := by omega
      have y5 : ¬ ((k : Int) < (k : Int)) := by omega
      have Y8 := Y4.below hB hw5
      have O8 := O5.after hB
      have cR := lright_any y _ _ _ W (O8.lr (by omega) (by omega) (by omega))
      rw [hyr] at cR
      have ⟨e0, e1, e2, e3, e4, e5, e6, e7, e8, elt⟩ := Y8.a
      have hWs := hB.size
      have b8 : Below w3.heap.size w3 W := b5.trans (hB.mono (by have := b5.size; omega))
      clear hB hRo hZ
      unfold Lbl.v at cR
      go_wp2_with (fail)
      refine cR.mono ?_
      rintro e w9 ⟨rfl, b9⟩
      clear cR e0 e1 e2 e3 e4 e5 e6 e7 e8 elt
      have Y9 := Y8.below b9 Y8.a.lt
      have O9 := O8.after b9
      have B9 : Below w3.heap.size w3 w9 := b8.trans (b9.mono b8.size)
      obtain ⟨R9, hs1, hs2, hs3⟩ := O5.rows hyl.1 hyl.2.1 hyl.2.2
      have R5 := R9.lt
      replace R9 := (O9.rows hyl.1 hyl.2.1 hyl.2.2).1
      have g4 : w3.heap.size ≤ a1 ∧ a1 < t := ⟨R5.1.1, by have := h45.1; omega⟩
      have g5 : w3.heap.size ≤ a2 ∧ a2 < t := ⟨R5.2.1.1, by have := h45.2.1; omega⟩
      have g6 : w3.heap.size ≤ a3 ∧ a3 < t := ⟨R5.2.2.1, by have := h45.2.2; omega⟩
      clear R5 O9 O8 Y8 O5 Y4 b8 b9
      go_wp2_with (fail)
      go_loopw [14] (fun i W => ∃ j : Nat, j ≤ k ∧ i = .int .i64 (j : Int) ∧ Rows3 W w3.heap.size k a1 d1 a2 d2 a3 d3 ∧ LblBox W t y (.slice (some ⟨a1, 0, none⟩) k d1) (.slice (some ⟨a2, 0, none⟩) k d2) (.slice (some ⟨a3, 0, none⟩) k d3) ∧ Below w3.heap.size w3 W) (fun i _ => k - (intOf i).toNat)
      case atStart => exact ⟨0, Nat.zero_le _, rfl, R9, Y9, B9⟩
      case round =>
        obtain ⟨j, hj, rfl, hRo, hZ, hB⟩ := hrel
        rename World => V
        clear R9 Y9 B9
        have z6 := hZ.a.c6
        have z7 := hZ.a.c7
        have z8 := hZ.a.c8
        by_cases hlt : j < k
        · have y6 : (j : Int) < (k : Int) := by omega
          obtain ⟨⟨o1, q1⟩, ⟨o2, q2⟩, ⟨o3, q3⟩, r1, r2, r3⟩ := hRo.cells hs1 hs2 hs3 hlt (.int .i64 (-1)) (.int .i64 (-1))
          have Z1 := hZ.far (u := .int .i64 (-1)) (i := j) (show t ≠ a1 by omega)
          have Z2 := Z1.far (u := .int .i64 (-1)) (i := j) (show t ≠ a2 by omega)
          have Zq := Z2.far (u := .int .i64 (-1)) (i := j) (show t ≠ a3 by omega)
          have z7' := Z1.a.c7
          have z8' := Z2.a.c8
          have hset := hRo.set hs1 hs2 hs3 (k := j) (.int .i64 (-1)) (.int .i64 (-1)) (.int .i64 (-1))
          have hbs := ((hB.setCell (p := ⟨a1, j, none⟩) g4.1 (.int .i64 (-1))).setCell (p := ⟨a2, j, none⟩) g5.1 (.int .i64 (-1))).setCell (p := ⟨a3, j, none⟩) g6.1 (.int .i64 (-1))
          go_wp2_with (fail)
          go_roundw
          case rel => exact ⟨j + 1, by omega, by go_num, hset, Zq, hbs⟩
          case measure => simp [intOf]; omega
        · obtain rfl : j = k := by omega
          have y6 : ¬ ((j : Int) < (j : Int)) := by omega
          clear hRo hN hyl hul hzl hk y5 hj hlt hZ u5 hs4 h45 hw5 hs6 g1 g2 g3 g4 g5 g6 hr1 hr2 hr3 hs1 hs2 hs3 hc1 hc2 hc3 hWs elt q2 hfs hyg hyr b5 hn2 z7 z8
          go_wp2_with (fail)
          clear z6
          go_loopw [15] (fun i W => ∃ m : Nat, m ≤ j ∧ i = .int .i64 (m : Int) ∧ Below w3.heap.size w3 W) (fun i _ => j - (intOf i).toNat)
          case atStart => exact ⟨0, Nat.zero_le _, rfl, hB⟩
          case round =>
            obtain ⟨m, hm, rfl, hb⟩ := hrel
            rename World => V2
            by_cases hlm : m < j
            · have y7 : (m : Int) < (j : Int) := by omega
              have hml : m < l.length := by rw [hll]; exact hlm
              obtain ⟨aa, cc, ev, hg⟩ := hR3.out
              simp only [hll] at ev
              have hee : fa = aa ∧ fc = cc := by simpa using ev
              obtain ⟨bb, bo, rfl, hA, hL⟩ := hg m hml
              obtain ⟨rfl, rfl⟩ := hee
              have hrr := hrt.out m hml
              clear hg ev hR3
              generalize l[m] = fd at *
              obtain ⟨has, X, va, vb, vc⟩ := fd
              obtain ⟨x1, x2, e1⟩ := hL.s.isSlice
              obtain ⟨x3, x4, e2⟩ := hL.b.isSlice
              obtain ⟨x5, x6, e3⟩ := hL.c.isSlice
              simp only at e1 e2 e3
              subst e1 e2 e3
              simp only [List.length_map] at hL hA hrr
              have cR := lright_any X _ _ _ V2 (hL.below hb)
              rw [hrr] at cR
              have ⟨h0, i0, i1, i2, i3, i4, i5, i6, i7, i8, ilt⟩ := hA.below hb hA.lt
              clear hA hL
              simp only at i0 i1 i2 i3 i4 i5 i6 i7 i8
              unfold Lbl.v at cR
              go_wp2_with (fail)
              refine cR.mono ?_
              rintro e V3 ⟨rfl, b10⟩
              have hb3 := hb.trans (b10.mono hb.size)
              clear cR i0 i1 i2 i3 i4 i5 i6 i7 i8 h0
              go_wp2_with (fail)
              go_roundw
              case rel => exact ⟨m + 1, by omega, by go_num, hb3⟩
              case measure => simp [intOf]; omega
            · have y7 : ¬ ((m : Int) < (j : Int)) := by omega
              go_wp2_with (fail)
              go_ret
              exact ⟨rfl, B3.trans (hb.mono B3.size)⟩
end Go.Proofs.YtaopknddpagjeaaDoor
