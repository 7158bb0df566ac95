/- label: which label counts, walked. -/
import Derived.Test.YtaopknddpagjeaaDoorLabChoM
import Derived.Test.YtaopknddpagjeaaDoorClsTail
import Derived.Deep.Cut
import Derived.BigQuiet
import Derived.Deep.QuietTactic
namespace Go.Proofs.YtaopknddpagjeaaDoor
open Go.RowKit
set_option linter.unusedVariables false
set_option linter.unusedSimpArgs false
open Lb

theorem res_cho {tm : Array Value} {W : World} {b : Nat} {x : Lbl} {vs vb vc u : Value} {n : Int} (h : LblBox W b x vs vb vc) (h2 : tm.getD 4 undef = .pointer (some ⟨b, 0, none⟩)) (h3 : tm.getD 5 undef = u) (h4 : tm.getD 6 undef = .int .i64 n) :
    (results Tryd.f21 tm).run Tryd.prog W = .ok (.tuple #[x.v vs vb vc, u, .int .i64 n]) W := by
  have h2' : tm[4]?.getD undef = .pointer (some ⟨b, 0, none⟩) := by simpa using h2
  have h3' : tm[5]?.getD undef = u := by simpa using h3
  have h4' : tm[6]?.getD undef = .int .i64 n := by simpa using h4
  simp [results, Tryd.results21, go_sem, h2', h3', h4', h.a.c0, h.a.c1, h.a.c2, h.a.c3, h.a.c4, h.a.c5, h.a.c6, h.a.c7, h.a.c8, Lbl.v]
theorem Tryd.infoBo : (Tryd.prog.info? 4).map (fun i => (i.zero, i.size, i.bytes)) = some (some (.bool false), 1, 1) := by kernel_rfl
/-- What was found in a slot, its slices written out. -/
theorem FReads.at {w : World} {v : Value} {l : List Fd} (h : FReads w v l) {i : Nat} (hi : i < l.length) :
    ∃ b o cap a1 d1 a2 d2 a3 d3, v = .slice (some ⟨b, o, none⟩) l.length cap ∧ FAt w b (o + i * 10) ⟨l[i].has, l[i].x, .slice a1 l[i].x.st.length d1, .slice a2 l[i].x.bo.length d2, .slice a3 l[i].x.cu.length d3⟩ ∧
      LR w l[i].x (.slice a1 l[i].x.st.length d1) (.slice a2 l[i].x.bo.length d2) (.slice a3 l[i].x.cu.length d3) := by
  obtain ⟨a, cap, e, g⟩ := h
  obtain ⟨b, o, rfl, hA, hL⟩ := g i hi
  obtain ⟨a1, d1, e1⟩ := hL.s.isSlice
  obtain ⟨a2, d2, e2⟩ := hL.b.isSlice
  obtain ⟨a3, d3, e3⟩ := hL.c.isSlice
  rw [List.length_map] at e1 e2 e3
  refine ⟨b, o, cap, a1, d1, a2, d2, a3, d3, e, ?_, ?_⟩
  · rw [← e1, ← e2, ← e3]; exact hA
  · rw [← e1, ← e2, ← e3]; exact hL
set_option maxRecDepth 100000 in
set_option maxHeartbeats 3000000 in
theorem choose_any (id : Int) (v : Value) (l : List Fd) (w : World) (h : FReads w v l) (hl : l.length ≤ 1000) : Calls Tryd.prog 21 #[.int .i64 id, v] w (GivesC w (choL id l) (choU id l) (choE id l)) := by
  obtain ⟨p, hp⟩ : ∃ p, w.heap.size = p := ⟨_, rfl⟩
  have hF := h
  obtain ⟨a, cap, rfl, _⟩ := h
  have cC : ∀ k, k < l.length → ∀ W, Below w.heap.size w W → Calls Tryd.prog 53 #[.int .i64 id, .slice a l.length cap, .int .i64 (k : Int)] W fun e w' => e = .returned (.bool (cntB id l k)) ∧ Below W.heap.size W w' := fun k hk W hW => counts_any id _ l k W (hF.below hW) hk hl
  replace cC := Lib.hid cC
  replace hF := Lib.hid hF
  have b0 : Below p w (w.alloc (.cells #[.int .i64 0, .int .i64 0, .int .i64 0, .int .i64 0, .int .i64 0, .int .i64 0, .slice none 0 0, .slice none 0 0, .slice none 0 0] 26)) := (Below.refl _ _).alloc (by omega) _
  have z0 := LblBox.made w 26
  rw [hp] at z0
  go_enter Tryd.func21, Tryd.ntmps21
  go_upto_region 1 with (fail)
  generalize w.alloc (.cells #[.int .i64 0, .int .i64 0, .int .i64 0, .int .i64 0, .int .i64 0, .int .i64 0, .slice none 0 0, .slice none 0 0, .slice none 0 0] 26) = wb at *
  have hbw : Below w.heap.size w wb := by rw [hp]; exact b0
  have lp := z0.a.lt
  go_wp2_with (fail)
  go_loopw [7, 15] (fun t s wr => ∃ k : Nat, k ≤ l.length ∧ s = .int .i64 (k : Int) ∧ t = .int .i64 (bestV (bestTo id l k)) ∧ Below wb.heap.size wb wr) (fun _ s _ => l.length - (intOf s).toNat)
  case atStart => exact ⟨0, Nat.zero_le _, rfl, rfl, Below.refl _ _⟩
  case round =>
    obtain ⟨k, hk, rfl, rfl, hB⟩ := hrel
    rename World => wr
    have hWr : Below w.heap.size w wr := hbw.trans (hB.mono hbw.size)
    by_cases hlt : k < l.length
    · have y1 : (k : Int) < (l.length : Int) := by omega
      have cK := cC.out k hlt
      replace cK := Lib.hid cK
      cases hc : cntB id l k with
      | false =>
        have HN := Lib.hid (bestTo_no hc)
        rw [hc] at cK
        clear hc
        go_wp2_with (fail)
        refine wp_region_cls (Below wr.heap.size wr) (by kernel_rfl) (by kernel_rfl) (Below.refl _ _).drew ?_
        intro Z f hne hD hE
        have hDw : ∀ z, Below w.heap.size w (f z) := fun z => below_c hWr (hD z)
        iterate 23 (go_big_quiet_step (first | (go_at_call 53; with_reducible exact toQB hD hE _ (cK.out _ (hDw _)))))
        refine wpQuiet_nil ?_
        intro _ hw'
        obtain ⟨zq, hw''⟩ := hw'
        subst hw''
        have hB2 := hB.trans ((hD zq).mono hB.size)
        clear hDw hE
        go_wp2_with (fail)
        go_roundw
        case rel => exact ⟨k + 1, by omega, by go_num, by rw [HN.out], hB2⟩
        case measure => simp [intOf]; omega
      | true =>
        cases hb : bestTo id l k with
        | none =>
          have HN := Lib.hid (bestTo_first hc hb)
          rw [hc] at cK
          clear hc hb
          simp only [bestV]
          go_wp2_with (fail)
          refine wp_region_cls (Below wr.heap.size wr) (by kernel_rfl) (by kernel_rfl) (Below.refl _ _).drew ?_
          intro Z f hne hD hE
          have hDw : ∀ z, Below w.heap.size w (f z) := fun z => below_c hWr (hD z)
          iterate 23 (go_big_quiet_step (first | (go_at_call 53; with_reducible exact toQB hD hE _ (cK.out _ (hDw _)))))
          refine wpQuiet_nil ?_
          intro _ hw'
          obtain ⟨zq, hw''⟩ := hw'
          subst hw''
          have hB2 := hB.trans ((hD zq).mono hB.size)
          clear hDw hE
          go_wp2_with (fail)
          go_roundw
          case rel => exact ⟨k + 1, by omega, by go_num, by rw [HN.out], hB2⟩
          case measure => simp [intOf]; omega
        | some b =>
          have hbl := (bestTo_lt hb).1
          obtain ⟨cb, co, cc, a1, d1, a2, d2, a3, d3, e1, A1, _⟩ := (hF.out.below hWr).at hlt
          obtain ⟨cb', co', cc', a1', d1', a2', d2', a3', d3', e2, A2, _⟩ := (hF.out.below hWr).at (show b < l.length by omega)
          obtain ⟨rfl, rfl⟩ : a = some ⟨cb, co, none⟩ ∧ cap = cc := by simpa using e1
          obtain ⟨⟨rfl, rfl⟩, rfl⟩ : (cb = cb' ∧ co = co') ∧ cap = cc' := by simpa using e2
          clear e1 e2
          have g1 : wr.cell? ⟨cb, co + k * 10 + 3, none⟩ = some (.int .i64 (gAt l k)) := by rw [gAt_at hlt]; exact A1.c2
          have g2 : wr.cell? ⟨cb, co + b * 10 + 3, none⟩ = some (.int .i64 (gAt l b)) := by rw [gAt_at (by omega)]; exact A2.c2
          have glt := A1.lt
          clear A1 A2
          have y2 : (b : Int) < (l.length : Int) := by omega
          have y3 : decide ((b : Int) < 0) = false := by simp
          have y4 : ¬ ((b : Int) < 0) := by omega
          have HN : Hid (bestTo id l (k + 1) = if gAt l k > gAt l b then some k else some b) := Lib.hid (by
            split
            · exact bestTo_more hc hb ‹_›
            · exact bestTo_less hc hb ‹_›)
          rw [hc] at cK
          clear hc hb
          simp only [bestV]
          generalize gAt l k = G1 at *
          generalize gAt l b = G2 at *
          by_cases hg : G1 > G2
          · have hg' : decide (G1 > G2) = true := decide_eq_true hg
            rw [if_pos hg] at HN
            go_wp2_with (fail)
            refine wp_region_cls (Below wr.heap.size wr) (by kernel_rfl) (by kernel_rfl) (Below.refl _ _).drew ?_
            intro Z f hne hD hE
            have hDw : ∀ z, Below w.heap.size w (f z) := fun z => below_c hWr (hD z)
            have j1 : ∀ z, (f z).cell? ⟨cb, co + k * 10 + 3, none⟩ = some (.int .i64 G1) := fun z => (clsCell hD z _ _ glt).trans g1
            have j2 : ∀ z, (f z).cell? ⟨cb, co + b * 10 + 3, none⟩ = some (.int .i64 G2) := fun z => (clsCell hD z _ _ glt).trans g2
            clear g1 g2
            iterate 23 (go_big_quiet_step (first | (go_at_call 53; with_reducible exact toQB hD hE _ (cK.out _ (hDw _)))))
            refine wpQuiet_nil ?_
            intro _ hw'
            obtain ⟨zq, hw''⟩ := hw'
            subst hw''
            have hB2 := hB.trans ((hD zq).mono hB.size)
            clear hDw hE j1 j2
            go_wp2_with (fail)
            go_roundw
            case rel => exact ⟨k + 1, by omega, by go_num, by rw [HN.out], hB2⟩
            case measure => simp [intOf]; omega
          · have hg' : decide (G1 > G2) = false := decide_eq_false hg
            rw [if_neg hg] at HN
            go_wp2_with (fail)
            refine wp_region_cls (Below wr.heap.size wr) (by kernel_rfl) (by kernel_rfl) (Below.refl _ _).drew ?_
            intro Z f hne hD hE
            have hDw : ∀ z, Below w.heap.size w (f z) := fun z => below_c hWr (hD z)
            have j1 : ∀ z, (f z).cell? ⟨cb, co + k * 10 + 3, none⟩ = some (.int .i64 G1) := fun z => (clsCell hD z _ _ glt).trans g1
            have j2 : ∀ z, (f z).cell? ⟨cb, co + b * 10 + 3, none⟩ = some (.int .i64 G2) := fun z => (clsCell hD z _ _ glt).trans g2
            clear g1 g2
            iterate 23 (go_big_quiet_step (first | (go_at_call 53; with_reducible exact toQB hD hE _ (cK.out _ (hDw _)))))
            refine wpQuiet_nil ?_
            intro _ hw'
            obtain ⟨zq, hw''⟩ := hw'
            subst hw''
            have hB2 := hB.trans ((hD zq).mono hB.size)
            clear hDw hE j1 j2
            go_wp2_with (fail)
            go_roundw
            case rel => exact ⟨k + 1, by omega, by go_num, by rw [HN.out], hB2⟩
            case measure => simp [intOf]; omega
    · obtain rfl : k = l.length := by omega
      have y1 : ¬ ((l.length : Int) < (l.length : Int)) := by omega
      have z1 := z0.below hB lp
      have B1 := b0.trans (hB.mono (by omega))
      have sB := hB.size
      cases hb : bestTo id l l.length with
      | none =>
        have hL : Hid (choL id l = noLbl ∧ choU id l = [] ∧ choE id l = 101) := Lib.hid ⟨by rw [choL, hb], by rw [choU, hb], by rw [choE, hb]⟩
        clear hb cC hF z0 b0 hbw hB hWr
        simp only [bestV]
        have ⟨t0, t1, t2, t3, t4, t5, t6, t7, t8, tlt⟩ := z1.a
        have u0 := z1.f 0
        have u1 := z1.f 1
        have u2 := z1.f 2
        have u3 := z1.f 3
        have u4 := z1.f 4
        have u5 := z1.f 5
        have u6 := z1.f 6
        have u7 := z1.f 7
        have u8 := z1.f 8
        go_wp2_with (fail)
        refine bodyPost_ret (res_cho (z1.put noLbl (.slice none 0 0) (.slice none 0 0) (.slice none 0 0)) rfl rfl rfl) rfl ?_
        rw [hL.out.1, hL.out.2.1, hL.out.2.2]
        refine ⟨_, _, _, _, rfl, O3.nil _ _ _ rfl rfl rfl, Own.nil _ _ _, ?_⟩
        rw [hp]
        exact setL_below B1 (Nat.le_refl p) noLbl (.slice none 0 0) (.slice none 0 0) (.slice none 0 0)
      | some b =>
        obtain ⟨hbl, hcb⟩ := bestTo_lt hb
        obtain ⟨_, q1, q2, q3, q7⟩ := cnt_lens hcb
        have hL : Hid (choL id l = l[b].x ∧ choU id l = uses id l b ∧ choE id l = 0) := Lib.hid ⟨by rw [choL, hb]; simp only; rw [List.getElem?_eq_getElem hbl], by rw [choU, hb], by rw [choE, hb]⟩
        have hus := Lib.hid fun i (hi : i < l.length) => useB_at (id := id) hbl hi
        have hcl := Lib.hid fun i (h : cntB id l i = true) => cnt_lens h
        obtain ⟨cb, co, cc, a1, d1, a2, d2, a3, d3, e1, A1, L1⟩ := (hF.out.below hWr).at hbl
        obtain ⟨rfl, rfl⟩ : a = some ⟨cb, co, none⟩ ∧ cap = cc := by simpa using e1
        clear e1
        have y2 : (b : Int) < (l.length : Int) := by omega
        have y3 : decide ((b : Int) < 0) = false := by simp
        have y4 : ¬ ((b : Int) < 0) := by omega
        clear hb hcb z0 b0 hB
        simp only [bestV]
        rw [q1, q2, q3] at A1 L1
        obtain ⟨X, hX⟩ : ∃ X, l[b].x = X := ⟨_, rfl⟩
        simp only [hX] at A1 L1 q1 q2 q3 hL
        have hus' : Hid (∀ i (hi : i < l.length), useB id l b i = (cntB id l i && (geoB l[i].x X && (l[i].x.bo.getD i 0 == X.bo.getD i 0)))) := Lib.hid fun i hi => by rw [hus.out i hi, hX]
        clear hus hX
        replace q1 := Lib.hid q1
        replace q2 := Lib.hid q2
        replace q3 := Lib.hid q3
        have Yx := LblAt.made wr X (.slice a1 l.length d1) (.slice a2 l.length d2) (.slice a3 l.length d3) 26
        have bY : Below wr.heap.size wr (wr.alloc (.cells #[.int .i64 X.i, .int .i64 X.s, .int .i64 X.g, .int .i64 X.k, .int .i64 X.m, .int .i64 X.b, .slice a1 l.length d1, .slice a2 l.length d2, .slice a3 l.length d3] 26)) := (Below.refl _ _).alloc (Nat.le_refl _) _
        have ⟨f0, i0, i1, i2, i3, i4, i5, i6, i7, i8, ilt⟩ := A1
        go_upto_region 11 with (fail)
        have z2 := z1.below bY (by omega)
        have B2 := B1.trans (bY.mono (by omega))
        have L2 := L1.below bY
        have W2 : Below w.heap.size w (wr.alloc (.cells #[.int .i64 X.i, .int .i64 X.s, .int .i64 X.g, .int .i64 X.k, .int .i64 X.m, .int .i64 X.b, .slice a1 l.length d1, .slice a2 l.length d2, .slice a3 l.length d3] 26)) := below_c hWr bY
        have hz2 : (wr.alloc (.cells #[.int .i64 X.i, .int .i64 X.s, .int .i64 X.g, .int .i64 X.k, .int .i64 X.m, .int .i64 X.b, .slice a1 l.length d1, .slice a2 l.length d2, .slice a3 l.length d3] 26)).heap.size = wr.heap.size + 1 := by simp
        clear f0 i0 i1 i2 i3 i4 i5 i6 i7 i8 A1 z1 B1 L1 hWr bY
        generalize wr.alloc (.cells #[.int .i64 X.i, .int .i64 X.s, .int .i64 X.g, .int .i64 X.k, .int .i64 X.m, .int .i64 X.b, .slice a1 l.length d1, .slice a2 l.length d2, .slice a3 l.length d3] 26) = w2 at *
        obtain ⟨q, hq⟩ : ∃ q, wr.heap.size = q := ⟨_, rfl⟩
        rw [hq] at Yx hz2 sB ⊢
        have hqp : p < q := by omega
        clear hq ilt
        clear wr
        obtain ⟨ib, hi, hz0, hz1, hzb⟩ := info_parts Tryd.infoBo
        obtain ⟨w3, hmk, ou, b3⟩ := Own.make_run (P := Tryd.prog) (T := 43) Tryd.underlying43 hi hz0 hz1 hzb rfl w2 l.length (by omega) (by omega)
        obtain ⟨gu, hgu⟩ : ∃ g, w2.heap.size = g := ⟨_, rfl⟩
        rw [usTo_zero id l b] at ou
        have x3 : LblAt w3 q X (.slice a1 l.length d1) (.slice a2 l.length d2) (.slice a3 l.length d3) := Yx.below b3 Yx.lt
        have z3 := z2.below b3 z2.a.lt
        have B3 := B2.trans (b3.mono (by omega))
        have L3 : Hid (∀ W, Below gu w3 W → LR W X (.slice a1 l.length d1) (.slice a2 l.length d2) (.slice a3 l.length d3)) := Lib.hid fun W hW => L2.below (by rw [hgu]; exact (hgu ▸ b3).trans hW)
        have W3 := below_c W2 b3
        have s3 := b3.size
        rw [hgu] at hmk ou s3
        clear Yx z2 B2 L2 W2 b3
        go_wp2_with (fail)
        have hgq : q < gu := by omega
        clear hmk hgu hz2
        go_loopw [56] (fun s wr => ∃ k : Nat, k ≤ l.length ∧ s = .int .i64 (k : Int) ∧ Own wr gu 4 (.slice (some ⟨gu, 0, none⟩) l.length l.length) (usTo id l b k) ∧ Below gu w3 wr) (fun s _ => l.length - (intOf s).toNat)
        case atStart => exact ⟨0, Nat.zero_le _, rfl, ou, Below.refl _ _⟩
        case round =>
          obtain ⟨k, hk, rfl, hO, hB⟩ := hrel
          rename World => wr
          by_cases hlt : k < l.length
          · have y5 : (k : Int) < (l.length : Int) := by omega
            have sB3 := hB.size
            have Bw : Below w.heap.size w wr := W3.trans (hB.mono (by omega))
            obtain ⟨cb', co', cc', b1, e1, b2, e2, b3, e3, eq1, A1, L1⟩ := (hF.out.below Bw).at hlt
            obtain ⟨⟨rfl, rfl⟩, rfl⟩ : (cb = cb' ∧ co = co') ∧ cap = cc' := by simpa using eq1
            clear eq1
            have cK := Lib.hid (cC.out k hlt)
            have HV := hus'.out k hlt
            have hcl2 : cntB id l k = true → l[k].x.bo.length = l.length := fun h => by obtain ⟨_, _, h2, _⟩ := hcl.out k h; exact h2
            generalize l[k].x = Y at *
            generalize Y.st.length = m1 at *
            generalize Y.cu.length = m3 at *
            have YA := LblAt.made wr Y (.slice b1 m1 e1) (.slice b2 Y.bo.length e2) (.slice b3 m3 e3) 26
            have bY : Below wr.heap.size wr (wr.alloc (.cells #[.int .i64 Y.i, .int .i64 Y.s, .int .i64 Y.g, .int .i64 Y.k, .int .i64 Y.m, .int .i64 Y.b, .slice b1 m1 e1, .slice b2 Y.bo.length e2, .slice b3 m3 e3] 26)) := (Below.refl _ _).alloc (Nat.le_refl _) _
            have ⟨f0, i0, i1, i2, i3, i4, i5, i6, i7, i8, ilt⟩ := A1
            go_wp2_with (fail)
            clear f0 i0 i1 i2 i3 i4 i5 i6 i7 i8 ilt A1
            have xa := (x3.below hB hgq).below bY (by omega)
            have Oa := hO.after bY
            have Bwa := below_c Bw bY
            have La := L1.below bY
            have L3a := (L3.out _ hB).below bY
            have Ba := hB.trans (bY.mono (by omega))
            have hgl := (hO.lt).2
            have hsa := bY.size
            obtain ⟨ja, jc, jr, jn⟩ := La.b.nums
            obtain ⟨ka, kc, kr, kn⟩ := L3a.b.nums
            obtain ⟨rfl, rfl⟩ : b2 = ja ∧ e2 = jc := by simpa using jr
            obtain ⟨rfl, hxx, rfl⟩ : a2 = ka ∧ l.length = X.bo.length ∧ d2 = kc := by simpa using kr
            clear hxx
            obtain ⟨xb, xo, rfl, xlt, xc⟩ := kn k (by rw [q2.out]; exact hlt)
            clear jr kr kn L1 bY hO hB Bw
            generalize wr.alloc (.cells #[.int .i64 Y.i, .int .i64 Y.s, .int .i64 Y.g, .int .i64 Y.k, .int .i64 Y.m, .int .i64 Y.b, .slice b1 m1 e1, .slice b2 Y.bo.length e2, .slice b3 m3 e3] 26) = wa at *
            have hqg := fun W => eql_geo W Y.k Y.m Y.b X.k X.m X.b
            have hgg := eql_geo_guard
            obtain ⟨sl, hsl⟩ : ∃ q, wr.heap.size = q := ⟨_, rfl⟩
            rw [hsl] at YA hgl hsa ⊢
            replace hsl := Lib.hid hsl
            have hgu2 : gu < wa.heap.size := by omega
            cases hc : cntB id l k with
            | false =>
              rw [hc] at cK HV
              rw [Bool.false_and] at HV
              refine wp_region_cls_tail (Below wa.heap.size wa) 27 (by kernel_rfl) (by kernel_rfl) (Below.refl _ _).drew ?_
              intro Z f hne hD hE
              have hDw : ∀ z, Below w.heap.size w (f z) := fun z => below_c Bwa (hD z)
              obtain ⟨j0, j1, j2, j3, j4, j5, j6, j7, j8⟩ := YA.cls hD
              obtain ⟨k0, k1, k2, k3, k4, k5, k6, k7, k8⟩ := xa.cls hD
              simp only [List.take_succ_cons, List.take_zero, List.drop_succ_cons, List.drop_zero]
              iterate 27 (go_big_quiet_step (first | (go_at_call 53; with_reducible exact toQB hD hE _ (cK.out _ (hDw _)))))
              refine wpQuiet_nil ?_
              intro _ hw'
              obtain ⟨zq, hw''⟩ := hw'
              subst hw''
              have Oz := Oa.after (hD zq)
              have Bz := Ba.trans ((hD zq).mono (by omega))
              have cz := Oz.cell (i := k) (by rw [usTo, rowV_len]; exact hlt)
              have fz := Oz.frozen k
              generalize (usTo id l b k).getD k Value.nilFunc = old at cz
              clear hDw hE j0 j1 j2 j3 j4 j5 j6 j7 j8 k0 k1 k2 k3 k4 k5 k6 k7 k8
              go_wp2_with (fail)
              go_roundw
              case rel => exact ⟨k + 1, by omega, by go_num, by rw [← usTo_step, HV]; exact Oz.set k _, Bz.setCell (p := ⟨gu, k, none⟩) (Nat.le_refl gu) _⟩
              case measure => simp [intOf]; omega
            | true =>
              have hbl2 := hcl2 hc
              obtain ⟨yb, yo, rfl, ylt, yc⟩ := jn k (by omega)
              rw [hc] at cK HV
              rw [Bool.true_and] at HV
              clear hcl2
              simp only [hbl2] at YA La ⊢
              have hG : geoB Y X = (Y.k == X.k && Y.m == X.m && Y.b == X.b) := rfl
              rw [hG] at HV
              cases hg : (Y.k == X.k && Y.m == X.m && Y.b == X.b) with
              | false =>
                rw [hg, Bool.false_and] at HV
                refine wp_region_cls_tail (Below wa.heap.size wa) 27 (by kernel_rfl) (by kernel_rfl) (Below.refl _ _).drew ?_
                intro Z f hne hD hE
                have hDw : ∀ z, Below w.heap.size w (f z) := fun z => below_c Bwa (hD z)
                obtain ⟨j0, j1, j2, j3, j4, j5, j6, j7, j8⟩ := YA.cls hD
                obtain ⟨k0, k1, k2, k3, k4, k5, k6, k7, k8⟩ := xa.cls hD
                simp only [List.take_succ_cons, List.take_zero, List.drop_succ_cons, List.drop_zero]
                iterate 27 (go_big_quiet_step (first | (go_at_call 53; with_reducible exact toQB hD hE _ (cK.out _ (hDw _)))))
                refine wpQuiet_nil ?_
                intro _ hw'
                obtain ⟨zq, hw''⟩ := hw'
                subst hw''
                have Oz := Oa.after (hD zq)
                have Bz := Ba.trans ((hD zq).mono (by omega))
                have cz := Oz.cell (i := k) (by rw [usTo, rowV_len]; exact hlt)
                have fz := Oz.frozen k
                generalize (usTo id l b k).getD k Value.nilFunc = old at cz
                clear hDw hE j0 j1 j2 j3 j4 j5 j6 j7 j8 k0 k1 k2 k3 k4 k5 k6 k7 k8
                go_wp2_with (fail)
                go_roundw
                case rel => exact ⟨k + 1, by omega, by go_num, by rw [← usTo_step, HV]; exact Oz.set k _, Bz.setCell (p := ⟨gu, k, none⟩) (Nat.le_refl gu) _⟩
                case measure => simp [intOf]; omega
              | true =>
                rw [hg, Bool.true_and] at HV
                generalize Y.bo.getD k 0 = V1 at *
                generalize X.bo.getD k 0 = V2 at *
                refine wp_region_cls_tail (Below wa.heap.size wa) 27 (by kernel_rfl) (by kernel_rfl) (Below.refl _ _).drew ?_
                intro Z f hne hD hE
                have hDw : ∀ z, Below w.heap.size w (f z) := fun z => below_c Bwa (hD z)
                obtain ⟨j0, j1, j2, j3, j4, j5, j6, j7, j8⟩ := YA.cls hD
                obtain ⟨k0, k1, k2, k3, k4, k5, k6, k7, k8⟩ := xa.cls hD
                have r1 : ∀ z, (f z).cell? ⟨yb, yo + k, none⟩ = some (.int .i64 V1) := fun z => (clsCell hD z _ _ ylt).trans yc
                have r2 : ∀ z, (f z).cell? ⟨xb, xo + k, none⟩ = some (.int .i64 V2) := fun z => (clsCell hD z _ _ xlt).trans xc
                simp only [List.take_succ_cons, List.take_zero, List.drop_succ_cons, List.drop_zero]
                iterate 27 (go_big_quiet_step (first | (go_at_call 53; with_reducible exact toQB hD hE _ (cK.out _ (hDw _)))))
                refine wpQuiet_nil ?_
                intro _ hw'
                obtain ⟨zq, hw''⟩ := hw'
                subst hw''
                have Oz := Oa.after (hD zq)
                have Bz := Ba.trans ((hD zq).mono (by omega))
                have cz := Oz.cell (i := k) (by rw [usTo, rowV_len]; exact hlt)
                have fz := Oz.frozen k
                generalize (usTo id l b k).getD k Value.nilFunc = old at cz
                clear hDw hE j0 j1 j2 j3 j4 j5 j6 j7 j8 k0 k1 k2 k3 k4 k5 k6 k7 k8
                go_wp2_with (fail)
                go_roundw
                case rel => exact ⟨k + 1, by omega, by go_num, by rw [← usTo_step, HV]; exact Oz.set k _, Bz.setCell (p := ⟨gu, k, none⟩) (Nat.le_refl gu) _⟩
                case measure => simp [intOf]; omega
          · obtain rfl : k = l.length := by omega
            have y5 : ¬ ((l.length : Int) < (l.length : Int)) := by omega
            rw [usTo_all] at hO
            have xa := x3.below hB hgq
            have za := z3.below hB (by omega)
            have Ba := B3.trans (hB.mono (by omega))
            have La := L3.out _ hB
            have cC2 := clone_any X _ _ _ wr La (by rw [q1.out]; omega) (by rw [q2.out]; omega) (by rw [q3.out]; omega)
            unfold Lbl.v at cC2
            have hgl := (hO.lt).2
            have ⟨i0, i1, i2, i3, i4, i5, i6, i7, i8, ilt⟩ := xa
            go_wp2_with (fail)
            refine cC2.mono ?_
            rintro e w9 ⟨va, vb, vc, rfl, o9, b9⟩
            have z9 := za.below b9 za.a.lt
            have B9 := Ba.trans (b9.mono (by omega))
            have O9 := hO.after b9
            have s9 := b9.size
            obtain ⟨A1, D1, rfl⟩ := o9.a.isSlice
            obtain ⟨A2, D2, rfl⟩ := o9.b.isSlice
            obtain ⟨A3, D3, rfl⟩ := o9.c.isSlice
            clear i0 i1 i2 i3 i4 i5 i6 i7 i8 ilt xa za Ba La cC2 hO b9 hB
            simp only [Lbl.v, List.length_map]
            simp only [List.length_map] at o9
            have ⟨t0, t1, t2, t3, t4, t5, t6, t7, t8, tlt⟩ := z9.a
            have u0 := z9.f 0
            have u1 := z9.f 1
            have u2 := z9.f 2
            have u3 := z9.f 3
            have u4 := z9.f 4
            have u5 := z9.f 5
            have u6 := z9.f 6
            have u7 := z9.f 7
            have u8 := z9.f 8
            go_wp2_with (fail)
            refine bodyPost_ret (res_cho (z9.put X (.slice A1 X.st.length D1) (.slice A2 X.bo.length D2) (.slice A3 X.cu.length D3)) rfl rfl rfl) rfl ?_
            rw [hL.out.1, hL.out.2.1, hL.out.2.2]
            refine ⟨_, _, _, _, rfl, (o9.heap fun k hk _ => setL_heap _ _ _ _ _ _ _ (by omega)).mono (by omega), (O9.sameBlock (setL_heap _ _ _ _ _ _ _ (by omega))).mono (by omega), ?_⟩
            rw [hp]
            exact setL_below B9 (Nat.le_refl p) X (.slice A1 X.st.length D1) (.slice A2 X.bo.length D2) (.slice A3 X.cu.length D3)
end Go.Proofs.YtaopknddpagjeaaDoor
