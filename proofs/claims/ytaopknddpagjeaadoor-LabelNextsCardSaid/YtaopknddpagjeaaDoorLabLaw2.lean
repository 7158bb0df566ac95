/- label: LabelNexts, walked. -/
import Derived.Test.YtaopknddpagjeaaDoorLabFit
import Derived.Test.YtaopknddpagjeaaDoorLabNxM
import Derived.Test.YtaopknddpagjeaaDoorLabAwake
import Derived.BigQuiet
import Derived.Deep.QuietTactic
namespace Go.Proofs.YtaopknddpagjeaaDoor
open Go.RowKit
set_option linter.unusedVariables false
set_option linter.unusedSimpArgs false
open Lb

set_option maxRecDepth 100000 in
set_option maxHeartbeats 4000000 in
theorem lnexts_walk (r : Lbl) (vs vb vc : Value) (c : Int) (ls : List Int) (v : Value) (w : World) (hx : LR w r vs vb vc) (hi : -9223372036854775808 ≤ r.i ∧ r.i ≤ 9223372036854775807) (hs : -9223372036854775808 ≤ r.s ∧ r.s ≤ 9223372036854775807) (hg : -9223372036854775808 ≤ r.g ∧ r.g ≤ 9223372036854775807) (hk : -9223372036854775808 ≤ r.k ∧ r.k ≤ 9223372036854775807) (hm : -9223372036854775808 ≤ r.m ∧ r.m ≤ 9223372036854775807) (hb : -9223372036854775808 ≤ r.b ∧ r.b ≤ 9223372036854775807)
    (h1 : ∀ n ∈ r.st, -9223372036854775808 ≤ n ∧ n ≤ 9223372036854775807) (h2 : ∀ n ∈ r.bo, -9223372036854775808 ≤ n ∧ n ≤ 9223372036854775807) (h3 : ∀ n ∈ r.cu, -9223372036854775808 ≤ n ∧ n ≤ 9223372036854775807)
    (hc : -9223372036854775808 ≤ c ∧ c ≤ 9223372036854775807) (hl : Reads w v (ls.map (.int .i64))) (hl1 : ∀ n ∈ ls, -9223372036854775808 ≤ n ∧ n ≤ 9223372036854775807) (hl2 : ls.length ≤ 140737488355328) :
    Calls Tryd.prog 9 #[r.v vs vb vc, .int .i64 c, v] w (Tells w (.bool true)) := by
  have A0 : LblBox (w.alloc (.cells #[.int .i64 r.i, .int .i64 r.s, .int .i64 r.g, .int .i64 r.k, .int .i64 r.m, .int .i64 r.b, vs, vb, vc] 36)) w.heap.size r vs vb vc := ⟨LblAt.made w r vs vb vc 36, fun o => frozen_of_row _ _ _ _ _ (heap_alloc_new _ _)⟩
  have B0 : Below w.heap.size w (w.alloc (.cells #[.int .i64 r.i, .int .i64 r.s, .int .i64 r.g, .int .i64 r.k, .int .i64 r.m, .int .i64 r.b, vs, vb, vc] 36)) := (Below.refl _ _).alloc (Nat.le_refl _) _
  have gg := pk_rng r.g 549755813888 (by omega)
  unfold Lbl.v
  go_enter Tryd.func9, Tryd.ntmps9
  go_upto_region 1 with (fail)
  generalize w.alloc (.cells #[.int .i64 r.i, .int .i64 r.s, .int .i64 r.g, .int .i64 r.k, .int .i64 r.m, .int .i64 r.b, vs, vb, vc] 36) = w0 at *
  obtain ⟨p, hp⟩ : ∃ p, w.heap.size = p := ⟨_, rfl⟩
  rw [hp] at A0 B0 ⊢
  replace hp := Lib.hid hp
  go_wp2_with (fail)
  refine (awake10_any w0).mono ?_
  rintro e w1 ⟨rfl, b1⟩
  have A1 := A0.below b1 A0.a.lt
  have B1 := B0.trans (b1.mono (Nat.le_of_lt A0.a.lt))
  clear A0 B0 b1
  have a2 := A1.a.c2
  have f2 := A1.f 2
  have la := A1.a.lt
  go_wp2_with (fail)
  refine (pick10_any r.g 549755813888 w1 (by omega) (by omega) (by omega) (by omega)).mono ?_
  rintro e w' ⟨rfl, rfl⟩
  have A2 := A1.num2 (pk r.g 549755813888)
  have B2 := B1.setCell (p := ⟨p, 2, none⟩) (Nat.le_refl p) (.int .i64 (pk r.g 549755813888))
  have cF := fun W h => fit10_any { r with g := pk r.g 549755813888 } vs vb vc W h hi hs (by show _ ≤ pk r.g 549755813888 ∧ pk r.g 549755813888 ≤ _; omega) hk hm hb h1 h2 h3
  clear hi hs hg hk hm hb h1 h2 h3
  go_upto_region 3 with (fail)
  clear A1 B1 f2 a2
  generalize w1.setCell ⟨p, 2, none⟩ (.int .i64 (pk r.g 549755813888)) = w2 at *
  have L2 : LR w2 { r with g := pk r.g 549755813888 } vs vb vc := by
    have := hx.below (show Below w.heap.size w w2 by rw [hp.out]; exact B2)
    exact ⟨this.s, this.b, this.c, this.ls, this.lb, this.lc⟩
  have cF2 := cF w2 L2
  have q2 : 0 ≤ ({ r with g := pk r.g 549755813888 } : Lbl).g ∧ ({ r with g := pk r.g 549755813888 } : Lbl).g < 549755813888 := gg
  clear cF hx gg
  generalize ({ r with g := pk r.g 549755813888 } : Lbl) = q at *
  have hfs := Lib.hid (fit_small q q2)
  have hfo := fit_ok q
  have hfl := (fitTo_len q (fN q)).1
  have hfn := fN_rng q
  have ⟨e0, e1, e2, e3, e4, e5, e6, e7, e8, elt⟩ := A2.a
  unfold Lbl.v at cF2
  go_wp2_with (fail)
  refine cF2.mono ?_
  rintro e w3 ⟨va, vb', vc', rfl, O3', b3⟩
  have s23 := b3.size
  clear cF2 e0 e1 e2 e3 e4 e5 e6 e7 e8 L2 A2
  have B3 := B2.trans (b3.mono (by omega))
  have hB2s := B2.size
  clear b3 B2
  skip
  have hfb := (right_iff _).1 hfo
  have hN1 : (fitL q).st.length = fN q := hfl
  have hN2 : (fitL q).bo.length = fN q := (fitTo_len q (fN q)).2.1
  have hN3 : (fitL q).cu.length = fN q := (fitTo_len q (fN q)).2.2
  obtain ⟨N, hN⟩ : ∃ N, fN q = N := ⟨_, rfl⟩
  rw [hN] at hN1 hN2 hN3 hfn
  clear hfb hfl
  generalize fitL q = x at *
  replace hfn := hfn.2
  clear hN
  obtain ⟨a1, d1, ev⟩ := O3'.a.reads.isSlice
  rw [List.length_map, hN1] at ev
  subst ev
  obtain ⟨a2, d2, ev⟩ := O3'.b.reads.isSlice
  rw [List.length_map, hN2] at ev
  subst ev
  obtain ⟨a3, d3, ev⟩ := O3'.c.reads.isSlice
  rw [List.length_map, hN3] at ev
  subst ev
  have L3 := O3'.lr (by omega) (by omega) (by omega)
  have Xq : LblBox (w3.alloc (.cells #[.int .i64 x.i, .int .i64 x.s, .int .i64 x.g, .int .i64 x.k, .int .i64 x.m, .int .i64 x.b, .slice a1 N d1, .slice a2 N d2, .slice a3 N d3] 26)) w3.heap.size x (.slice a1 N d1) (.slice a2 N d2) (.slice a3 N d3) := ⟨LblAt.made w3 x (.slice a1 N d1) (.slice a2 N d2) (.slice a3 N d3) 26, fun o => frozen_of_row _ _ _ _ _ (heap_alloc_new _ _)⟩
  have bk : Below w3.heap.size w3 (w3.alloc (.cells #[.int .i64 x.i, .int .i64 x.s, .int .i64 x.g, .int .i64 x.k, .int .i64 x.m, .int .i64 x.b, .slice a1 N d1, .slice a2 N d2, .slice a3 N d3] 26)) := (Below.refl _ _).alloc (Nat.le_refl _) _
  simp only [Lbl.v]
  go_upto_region 4 with (fail)
  have L4 := L3.below bk
  have B4 := B3.trans (bk.mono (by omega))
  have hpq : p < w3.heap.size := Nat.lt_of_lt_of_le elt s23
  clear L3 B3 bk O3'
  generalize w3.alloc (.cells #[.int .i64 x.i, .int .i64 x.s, .int .i64 x.g, .int .i64 x.k, .int .i64 x.m, .int .i64 x.b, .slice a1 N d1, .slice a2 N d2, .slice a3 N d3] 26) = w4 at *
  obtain ⟨s, hs⟩ : ∃ s, w3.heap.size = s := ⟨_, rfl⟩
  rw [hs] at Xq hpq ⊢
  clear hs
  have i6 := Xq.a.c6
  have lx := Xq.a.lt
  obtain ⟨ib, hi, hz0, hz1, hzb⟩ := info_parts Tryd.infoBo
  obtain ⟨w5, hmk, ou, b5⟩ := Own.make_run (P := Tryd.prog) (T := 43) Tryd.underlying43 hi hz0 hz1 hzb rfl w4 N (by omega) (by omega)
  obtain ⟨gu, hgu⟩ : ∃ g, w4.heap.size = g := ⟨_, rfl⟩
  rw [allTo_zero] at ou
  have X5 := Xq.below b5 lx
  have L5 := L4.below b5
  have B5 := B4.trans (b5.mono (by omega))
  rw [hgu] at hmk ou b5 lx
  have L6 : Hid (∀ W, Below gu w5 W → LR W x (.slice a1 N d1) (.slice a2 N d2) (.slice a3 N d3)) := Lib.hid fun W hW => L4.below (by rw [hgu]; exact b5.trans hW)
  clear L5
  go_wp2_with (fail)
  clear hmk i6 L4 B4 Xq
  have hu0 := b5.size
  clear b5
  go_loopw [11] (fun t wr => ∃ k : Nat, k ≤ N ∧ t = .int .i64 (k : Int) ∧ Own wr gu 4 (.slice (some ⟨gu, 0, none⟩) N N) (allTo N k) ∧ Below gu w5 wr) (fun t _ => N - (intOf t).toNat)
  case atStart => exact ⟨0, Nat.zero_le _, rfl, ou, Below.refl _ _⟩
  case round =>
    obtain ⟨k, hk, rfl, hO, hB⟩ := hrel
    rename World => wr
    by_cases hlt : k < N
    · have y5 : (k : Int) < (N : Int) := by omega
      have cz := hO.cell (i := k) (by simp [allTo, rowV]; exact hlt)
      have fz := hO.frozen k
      generalize (allTo N k).getD k Value.nilFunc = old at cz
      go_wp2_with (fail)
      go_roundw
      case rel => exact ⟨k + 1, by omega, by go_num, by rw [← allTo_step]; exact hO.set k _, hB.setCell (p := ⟨gu, k, none⟩) (Nat.le_refl gu) _⟩
      case measure => simp [intOf]; omega
    · obtain rfl : k = N := by omega
      have y5 : ¬ ((k : Int) < (k : Int)) := by omega
      rw [allTo_all] at hO
      have X6 := X5.below hB lx
      have L7 := L6.out _ hB
      have B6 := B5.trans (hB.mono (by omega))
      have hxg : x.g < 1099511627776 := by have := hfs.out; omega
      have hxg0 : 0 ≤ x.g := by have := hfs.out; omega
      have cN := next_any x (List.replicate k true) (.slice a1 k d1) (.slice a2 k d2) (.slice a3 k d3) _ wr L7 hO.reads (by simp; omega)
      obtain ⟨hy1, hy2⟩ := nextL_ok hfo hxg (us := List.replicate k true) (by simp; omega)
      rw [hy1, hy2] at cN
      have eyx := Lib.hid (nexted_all x k)
      have eyg : Hid ((nexted x (List.replicate k true)).g = x.g + 1) := Lib.hid rfl
      have eyl : (nexted x (List.replicate k true)).st.length = k ∧ (nexted x (List.replicate k true)).bo.length = k ∧ (nexted x (List.replicate k true)).cu.length = k := ⟨(mask_len _ _).trans hN1, hN2, (mask_len _ _).trans hN3⟩
      have eys : Hid ((nexted x (List.replicate k true)).st = x.st ∧ (nexted x (List.replicate k true)).bo = x.bo ∧ (nexted x (List.replicate k true)).cu = x.cu) := Lib.hid ⟨mask_all _ _, rfl, mask_all _ _⟩
      generalize nexted x (List.replicate k true) = y at *
      clear hy1 hy2 X5 B5 ou
      have ⟨e0, e1, e2, e3, e4, e5, e6, e7, e8, elt⟩ := X6.a
      unfold Lbl.v at cN
      go_wp2_with (fail)
      refine cN.mono ?_
      rintro e w6 ⟨va, vb', vc', rfl, O6, b6⟩
      clear cN e0 e1 e2 e3 e4 e5 e6 e7 e8 L7
      obtain ⟨j1, m1, ev⟩ := O6.a.reads.isSlice
      rw [List.length_map, eyl.1] at ev
      subst ev
      obtain ⟨j2, m2, ev⟩ := O6.b.reads.isSlice
      rw [List.length_map, eyl.2.1] at ev
      subst ev
      obtain ⟨j3, m3, ev⟩ := O6.c.reads.isSlice
      rw [List.length_map, eyl.2.2] at ev
      subst ev
      have hO6 := hO.after b6
      have hO6r := hO6.reads
      have X7 := X6.below b6 elt
      have B7 := below_c (show Below w.heap.size w wr by rw [hp.out]; exact B6) b6
      have B7s := B7
      have h6s := b6.size
      have Bg6 : Below gu w5 w6 := hB.trans (b6.mono (by have := hB.size; omega))
      have hgl := (hO.lt).2
      clear hO X6 B6 b6 hB
      have Y8 : LblBox (w6.alloc (.cells #[.int .i64 y.i, .int .i64 y.s, .int .i64 y.g, .int .i64 y.k, .int .i64 y.m, .int .i64 y.b, .slice j1 k m1, .slice j2 k m2, .slice j3 k m3] 26)) w6.heap.size y (.slice j1 k m1) (.slice j2 k m2) (.slice j3 k m3) := ⟨LblAt.made w6 y (.slice j1 k m1) (.slice j2 k m2) (.slice j3 k m3) 26, fun o => frozen_of_row _ _ _ _ _ (heap_alloc_new _ _)⟩
      have bk : Below w6.heap.size w6 (w6.alloc (.cells #[.int .i64 y.i, .int .i64 y.s, .int .i64 y.g, .int .i64 y.k, .int .i64 y.m, .int .i64 y.b, .slice j1 k m1, .slice j2 k m2, .slice j3 k m3] 26)) := (Below.refl _ _).alloc (Nat.le_refl _) _
      simp only [Lbl.v]
      go_upto_region 11 with (fail)
      have hO8 := hO6.after bk
      have X8 := X7.below bk (by have := X7.a.lt; omega)
      have B8 := below_c B7 bk
      have L8 : Hid (∀ W, Below w6.heap.size w6 W → LR W y (.slice j1 k m1) (.slice j2 k m2) (.slice j3 k m3)) := Lib.hid fun W hW => (O6.lr (by omega) (by omega) (by omega)).below hW
      have Bt8 := bk
      have hAll : Hid (∀ W, Below w6.heap.size w6 W → Reads W (.slice (some ⟨gu, 0, none⟩) k k) ((List.replicate k true).map .bool)) := Lib.hid fun W hW => hO6r.below hW
      have Bw6 := B7s
      have hwt := B7s.size
      have Bg8 := Bg6.trans (bk.mono (by have := Bg6.size; omega))
      clear hO6 X7 B7 O6 Bg6 bk
      generalize w6.alloc (.cells #[.int .i64 y.i, .int .i64 y.s, .int .i64 y.g, .int .i64 y.k, .int .i64 y.m, .int .i64 y.b, .slice j1 k m1, .slice j2 k m2, .slice j3 k m3] 26) = w8 at *
      obtain ⟨t, ht⟩ : ∃ t, w6.heap.size = t := ⟨_, rfl⟩
      rw [ht] at Y8 h6s L8 Bt8 hAll hwt ⊢
      clear ht
      have i2 := X8.a.c2
      have k2 := Y8.a.c2
      have f2 := Y8.f 2
      go_upto_region 13 with (fail)
      have hst : s ≠ t := by have := X8.a.lt; omega
      have hgt : gu ≠ t := by omega
      have Y9 : LblBox (w8.setCell ⟨t, 2, none⟩ (.int .i64 x.g)) t x (.slice j1 k m1) (.slice j2 k m2) (.slice j3 k m3) := by
        have := Y8.num2 x.g
        rw [eyx.out] at this
        exact this
      have X9 : LblBox (w8.setCell ⟨t, 2, none⟩ (.int .i64 x.g)) s x _ _ _ := X8.far hst
      have Bt9 : Below t w6 (w8.setCell ⟨t, 2, none⟩ (.int .i64 x.g)) := Bt8.setCell (p := ⟨t, 2, none⟩) (Nat.le_refl t) _
      have B9 := below_c B8 (show Below w8.heap.size w8 w8 from Below.refl _ _)
      have Bw9 : Below w.heap.size w (w8.setCell ⟨t, 2, none⟩ (.int .i64 x.g)) := B8.setCell (p := ⟨t, 2, none⟩) (by show w.heap.size ≤ t; rw [hp.out]; omega) _
      have Bg9 : Below gu w5 (w8.setCell ⟨t, 2, none⟩ (.int .i64 x.g)) := Bg8.setCell (p := ⟨t, 2, none⟩) (by show gu ≤ t; omega) _
      have hO9 := hO8.setOther (a := ⟨t, 2, none⟩) (by simpa [Value.ownBlock] using hgt) (.int .i64 x.g)
      clear B9 Bt8 B8 Bg8 hO8 X8 Y8 i2 k2 f2
      generalize w8.setCell ⟨t, 2, none⟩ (.int .i64 x.g) = w9 at *
      have LX := L6.out w9 Bg9
      have LY : LR w9 x (.slice j1 k m1) (.slice j2 k m2) (.slice j3 k m3) := by
        have := L8.out w9 Bt9
        obtain ⟨h1, h2, h3⟩ := eys.out
        exact ⟨by rw [← h1]; exact this.s, by rw [← h2]; exact this.b, by rw [← h3]; exact this.c, by omega, by omega, by omega⟩
      have cS : ∀ W, Below w9.heap.size w9 W → Calls Tryd.prog 17 #[.agg #[.int .i64 x.i, .int .i64 x.s, .int .i64 x.g, .int .i64 x.k, .int .i64 x.m, .int .i64 x.b, .slice j1 k m1, .slice j2 k m2, .slice j3 k m3], .agg #[.int .i64 x.i, .int .i64 x.s, .int .i64 x.g, .int .i64 x.k, .int .i64 x.m, .int .i64 x.b, .slice a1 k d1, .slice a2 k d2, .slice a3 k d3]] W fun e w' => e = .returned (.bool true) ∧ Below W.heap.size W w' := fun W h => by have := lsame_any x x _ _ _ _ _ _ W (LY.below h) (LX.below h); rw [decide_eq_true (Eq.refl x)] at this; exact this
      have v1 : IntKind.i64.wrap (x.g + 1) = x.g + 1 := IntWalk.i64_in _ (by omega)
      have eg := eyg.out
      have t1 : (x.g + 1 != x.g + 1) = false := by simp
      rw [eg]
      clear eg LX LY L6
      have ⟨i0, i1, i2, i3, i4, i5, i6, i7, i8, ilt⟩ := X9.a
      have ⟨k0, k1, k2, k3, k4, k5, k6, k7, k8, klt⟩ := Y9.a
      go_wp2_with (fail)
      refine (cS w9 (Below.refl _ _)).mono ?_
      rintro e w10 ⟨rfl, b10⟩
      clear i0 i1 i2 i3 i4 i5 i6 i7 i8 k0 k1 k2 k3 k4 k5 k6 k7 k8 cS
      have Y10 := Y9.below b10 klt
      have Bw10 := below_c Bw9 b10
      have Bt10 : Below t w6 w10 := Bt9.trans (b10.mono (by omega))
      have hO10 := hO9.after b10
      clear Y9 X9 Bw9 Bt9 Bg9 hO9 b10
      go_wp2_with (fail)
      have hLR : Hid (∀ W, Below t w6 W → LR W x (.slice j1 k m1) (.slice j2 k m2) (.slice j3 k m3)) := Lib.hid fun W hW => by
        have := L8.out W hW
        obtain ⟨h1, h2, h3⟩ := eys.out
        exact ⟨by rw [← h1]; exact this.s, by rw [← h2]; exact this.b, by rw [← h3]; exact this.c, by omega, by omega, by omega⟩
      have hPk := pk_rng c 20 (by omega)
      have hN0 : NxOk x 0 x := ⟨hfo, by simp, rfl⟩
      clear L8 hO10 Bw10 eyx eyg eyl eys y5 hlt hk v1 t1 ilt klt
      go_loopw [15] (fun a wr => ∃ n : Nat, (n : Int) ≤ pk c 20 ∧ a = .int .i64 (n : Int) ∧ ∃ z va vb vc, NxOk x n z ∧ LblBox wr t z va vb vc ∧ ((∀ W, Below t w6 W → LR W z va vb vc) ∨ O3 wr (t + 1) z va vb vc) ∧ Below t w6 wr) (fun a _ => (pk c 20).toNat - (intOf a).toNat)
      case atStart => exact ⟨0, by omega, rfl, x, _, _, _, hN0, Y10, Or.inl hLR.out, Bt10⟩
      case round =>
        obtain ⟨n, hn, rfl, z, va, vb', vc', hz, hY, hL, hB⟩ := hrel
        rename World => wr
        clear Y10 Bt10
        have cP := pick10_any c 20 wr (by omega) (by omega) (by omega) (by omega)
        go_wp2_with (fail)
        refine cP.mono ?_
        rintro e w' ⟨rfl, rfl⟩
        clear cP
        by_cases hlt : (n : Int) < pk c 20
        · have hBs := hB.size
          obtain ⟨fv, w11, hap, ou, b11, _⟩ := Own.pushAll (P := Tryd.prog) (T := 43) Tryd.underlying43 hi hz0 hz1 hzb rfl (Own.nil wr wr.heap.size 4) (hAll.out wr hB) (fun u hu => by obtain ⟨b, _, rfl⟩ := List.mem_map.1 hu; rfl) (Nat.le_refl _) (by simp; omega) (by simp; omega)
          rw [List.nil_append] at ou
          obtain ⟨gf, cf, rfl, hgf, hgf2⟩ := ou.form (by simp; omega)
          rw [List.length_map, List.length_replicate] at hap ou
          have hY11 := hY.below b11 hY.a.lt
          have hB11 := hB.trans (b11.mono (by have := hY.a.lt; omega))
          have hly := hY.a.lt
          have hlv := hl.below (show Below w.heap.size w w11 from Bw6.trans (hB11.mono hwt))
          obtain ⟨lcap, lv, rfl, hlc⟩ : ∃ a cap, v = .slice a ls.length cap ∧ True := by obtain ⟨a, cp, h⟩ := hl.isSlice; exact ⟨a, cp, by simpa using h, trivial⟩
          replace hL := Lib.hid hL
          clear hB hY
          have hbn := fun W => pick10_any (ls.getD n 0) k W
          have y5 : (n : Int) < pk c 20 := hlt
          go_upto_if 80 with (at_builtin; refine wpList_append_run hap _ _ rfl rfl rfl rfl rfl ?_)
          clear hap
          go_cut [16, 80] from 81 to 89 (fun a b wx => ∃ us : List Bool, us.length = k ∧ a = .slice (some ⟨gf, 0, none⟩) k cf ∧ Own wx wr.heap.size 4 a (us.map .bool) ∧ Below wr.heap.size w11 wx)
          case first =>
            by_cases hnl : n < ls.length
            · have y6 : (n : Int) < (ls.length : Int) := by omega
              obtain ⟨la', lc', le', hlf⟩ := hlv.items
              obtain ⟨lb, lo, rfl, hlb, hlc2⟩ := hlf n (by simpa using hnl)
              obtain ⟨rfl, rfl⟩ : lcap = some ⟨lb, lo, none⟩ ∧ lv = lc' := by simpa using le'
              have hlr := hl1 _ (List.getElem_mem hnl)
              try simp only [List.getElem_map] at hlc2
              generalize ls[n] = e1 at *
              have hpk := pk_rng e1 k (by omega)
              obtain ⟨m, hm⟩ : ∃ m : Nat, pk e1 k = (m : Int) := ⟨(pk e1 k).toNat, by omega⟩
              have cQ := pick10_any e1 k w11 (by omega) (by omega) (by omega) (by omega)
              rw [hm] at cQ hpk
              have hmk : m < k := by omega
              have cz := ou.cell (i := m) (by simp; exact hmk)
              have fz := ou.frozen m
              generalize ((List.replicate k true).map Value.bool).getD m Value.nilFunc = old at cz
              have oz := ou.set m (.bool false)
              clear hm hlr
              go_wp2_with (fail)
              refine cQ.mono ?_
              rintro e w' ⟨rfl, rfl⟩
              clear cQ
              go_wp2_with (fail)
              go_meet
              exact ⟨(List.replicate k true).set m false, by simp, rfl, by rw [List.map_set]; exact oz, (Below.refl _ _).setCell (p := ⟨gf, m, none⟩) (by show wr.heap.size ≤ gf; omega) _⟩
            · have y6 : ¬ ((n : Int) < (ls.length : Int)) := by omega
              go_wp2_with (fail)
              go_meet
              exact ⟨List.replicate k true, by simp, rfl, ou, Below.refl _ _⟩
          case rest =>
            obtain ⟨us, hus, rfl, hF, hBF⟩ := hcut
            have bz : Below wr.heap.size wr wc := b11.trans hBF
            have Lz : LR wc z va vb' vc' := hL.out.elim (fun h => h wc (hB11.trans (hBF.mono (Nat.le_of_lt hly)))) fun h => (h.lr (by have := hz.l; omega) (by have := hz.l; have := (right_iff _).1 hz.r; have := this.st; have := ((right_iff _).1 hz.r).bo; omega) (by have := hz.l; have := ((right_iff _).1 hz.r).st; have := ((right_iff _).1 hz.r).cu; omega)).below bz
            have Yz := hY11.below hBF hly
            have Bz := hB11.trans (hBF.mono (Nat.le_of_lt hly))
            have hlv' := hl.below (show Below w.heap.size w wc from Bw6.trans (Bz.mono hwt))
            have hzg : z.g < 1099511627776 := by have := hz.g; have := hfs.out; omega
            have cN := next_any z us va vb' vc' _ wc Lz hF.reads (by omega)
            obtain ⟨hy1, hy2⟩ := nextL_ok hz.r hzg (us := us) (by rw [hus, hz.l, hN1])
            rw [hy1, hy2] at cN
            have hzs := hz.step (by have := hfs.out; omega) us
            have hyl : (nexted z us).st.length = k ∧ (nexted z us).bo.length = k ∧ (nexted z us).cu.length = k := by
              have r := (right_iff _).1 hzs.r
              have := hzs.l
              have := r.st
              have := r.bo
              have := r.cu
              omega
            have hyg : Hid ((nexted z us).g = z.g + 1) := Lib.hid rfl
            generalize nexted z us = y at *
            clear hy1 hy2 hF hBF bz hL hz hlv ou hY11 hB11 b11
            have ⟨e0, e1, e2, e3, e4, e5, e6, e7, e8, elt⟩ := Yz.a
            unfold Lbl.v at cN
            go_wp2_with (fail)
            refine cN.mono ?_
            rintro e w13 ⟨ua, ub, uc, rfl, O13, b13⟩
            clear e0 e1 e2 e3 e4 e5 e6 e7 e8 elt cN Lz hlv'
            have hws := b13.size
            have Y13 := Yz.below b13 Yz.a.lt
            have hlz := Yz.a.lt
            have B13 := Bz.trans (b13.mono (Nat.le_of_lt Yz.a.lt))
            clear Yz Bz b13
            obtain ⟨j4, m4, ev⟩ := O13.a.reads.isSlice
            rw [List.length_map, hyl.1] at ev
            subst ev
            obtain ⟨j5, m5, ev⟩ := O13.b.reads.isSlice
            rw [List.length_map, hyl.2.1] at ev
            subst ev
            obtain ⟨j6, m6, ev⟩ := O13.c.reads.isSlice
            rw [List.length_map, hyl.2.2] at ev
            subst ev
            have Z14 : LblBox (w13.alloc (.cells #[.int .i64 y.i, .int .i64 y.s, .int .i64 y.g, .int .i64 y.k, .int .i64 y.m, .int .i64 y.b, .slice j4 k m4, .slice j5 k m5, .slice j6 k m6] 26)) w13.heap.size y (.slice j4 k m4) (.slice j5 k m5) (.slice j6 k m6) := ⟨LblAt.made w13 y (.slice j4 k m4) (.slice j5 k m5) (.slice j6 k m6) 26, fun o => frozen_of_row _ _ _ _ _ (heap_alloc_new _ _)⟩
            have bk : Below w13.heap.size w13 (w13.alloc (.cells #[.int .i64 y.i, .int .i64 y.s, .int .i64 y.g, .int .i64 y.k, .int .i64 y.m, .int .i64 y.b, .slice j4 k m4, .slice j5 k m5, .slice j6 k m6] 26)) := (Below.refl _ _).alloc (Nat.le_refl _) _
            simp only [Lbl.v]
            go_upto_region 22 with (fail)
            have Y14 := Y13.below bk Y13.a.lt
            have O14 := O13.after bk
            have B14 : Below t w6 _ := B13.trans (bk.mono (Nat.le_of_lt Y13.a.lt))
            have hto : t < w13.heap.size := Y13.a.lt
            clear Y13 O13 B13 bk
            generalize w13.alloc (.cells #[.int .i64 y.i, .int .i64 y.s, .int .i64 y.g, .int .i64 y.k, .int .i64 y.m, .int .i64 y.b, .slice j4 k m4, .slice j5 k m5, .slice j6 k m6] 26) = w14 at *
            obtain ⟨o, ho⟩ : ∃ o, w13.heap.size = o := ⟨_, rfl⟩
            rw [ho] at Z14 hto ⊢
            clear ho
            have v1 : IntKind.i64.wrap (z.g + 1) = z.g + 1 := IntWalk.i64_in _ (by have := hzs.g; have := hyg.out; have := hfs.out; omega)
            have t1 : (y.g != z.g + 1) = false := by rw [hyg.out]; simp
            have cR := lright_any y _ _ _ w14 (O14.lr (by omega) (by omega) (by omega))
            rw [hzs.r] at cR
            have ⟨i0, i1, i2, i3, i4, i5, i6, i7, i8, ilt⟩ := Y14.a
            have ⟨k0, k1, k2, k3, k4, k5, k6, k7, k8, klt⟩ := Z14.a
            unfold Lbl.v at cR
            go_wp2_with (fail)
            refine cR.mono ?_
            rintro e w15 ⟨rfl, b15⟩
            clear i0 i1 i2 i3 i4 i5 i6 i7 i8 ilt k0 k1 k2 k3 k4 k5 k6 k7 k8 cR
            have Y15 := Y14.below b15 Y14.a.lt
            have Z15 := Z14.below b15 klt
            have O15 := O14.after b15
            have B15 := B14.trans (b15.mono (Nat.le_of_lt Y14.a.lt))
            clear Y14 Z14 O14 B14 b15 klt v1 t1
            have ⟨i0, i1, i2, i3, i4, i5, i6, i7, i8, ilt⟩ := Y15.a
            have ⟨k0, k1, k2, k3, k4, k5, k6, k7, k8, klt⟩ := Z15.a
            have f0 := Y15.f 0
            have f1 := Y15.f 1
            have f2 := Y15.f 2
            have f3 := Y15.f 3
            have f4 := Y15.f 4
            have f5 := Y15.f 5
            have f6 := Y15.f 6
            have f7 := Y15.f 7
            have f8 := Y15.f 8
            go_wp2_with (fail)
            go_roundw
            case rel =>
              refine ⟨n + 1, by omega, by go_num, y, _, _, _, hzs, Y15.put y (.slice j4 k m4) (.slice j5 k m5) (.slice j6 k m6), Or.inr ((O15.heap fun k hk _ => setL_heap _ _ _ _ _ _ _ (by omega)).mono (by omega)), ?_⟩
              exact setL_below B15 (Nat.le_refl t) y (.slice j4 k m4) (.slice j5 k m5) (.slice j6 k m6)
            case measure => simp [intOf]; omega
        · have y5 : ¬ ((n : Int) < pk c 20) := hlt
          go_wp2_with (fail)
          go_ret
          exact ⟨rfl, Bw6.trans (hB.mono hwt)⟩
end Go.Proofs.YtaopknddpagjeaaDoor
