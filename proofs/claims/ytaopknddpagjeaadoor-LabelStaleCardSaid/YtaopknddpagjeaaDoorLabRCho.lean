/- label: which label counts, walked. -/
import Derived.Test.YtaopknddpagjeaaDoorLabChoM
import Derived.Test.YtaopknddpagjeaaDoorLabCho
import Derived.Test.YtaopknddpagjeaaDoorLabCopy
import Derived.Deep.Cut
import Derived.BigQuiet
import Derived.Deep.QuietTactic
namespace Go.Proofs.YtaopknddpagjeaaDoor
open Go.RowKit
set_option linter.unusedVariables false
set_option linter.unusedSimpArgs false
open Lb

theorem rres_cho {tm : Array Value} {W : World} {b : Nat} {x : Lbl} {vs vb vc u : Value} {n : Int} (h : LblBox W b x vs vb vc) (h2 : tm.getD 4 undef = .pointer (some ⟨b, 0, none⟩)) (h3 : tm.getD 5 undef = u) (h4 : tm.getD 6 undef = .int .i64 n) :
    (results Tryd.f22 tm).run Tryd.prog W = .ok (.tuple #[x.v vs vb vc, u, .int .i64 n]) W := by
  have h2' : tm[4]?.getD undef = .pointer (some ⟨b, 0, none⟩) := by simpa using h2
  have h3' : tm[5]?.getD undef = u := by simpa using h3
  have h4' : tm[6]?.getD undef = .int .i64 n := by simpa using h4
  simp [results, Tryd.results22, go_sem, h2', h3', h4', h.a.c0, h.a.c1, h.a.c2, h.a.c3, h.a.c4, h.a.c5, h.a.c6, h.a.c7, h.a.c8, Lbl.v]
theorem own_setL {w : World} {B C p : Nat} {E : TypeId} {v : Value} {xs : List Value} (h : Own w B E v xs) (hp : p < B) (hC : C ≤ B) (y : Lbl) (us ub uc : Value) : Own (setL w p y us ub uc) C E v xs := by
  refine (KP.own (p := p) (w := w) ⟨Nat.le_of_eq (setL_size _ _ _ _ _ _).symm, fun k _ hk => setL_heap _ _ _ _ _ _ _ hk⟩ h hp).mono hC
def usF (id : Int) (l : List Fd) (b k : Nat) : List Bool := (List.range k).map (useB id l b)
theorem usF_step (id : Int) (l : List Fd) (b k : Nat) : (usF id l b (k + 1)).map Value.bool = (usF id l b k).map Value.bool ++ [.bool (useB id l b k)] := by rw [usF, List.range_succ, List.map_append, List.map_append]; rfl
theorem usF_len (id : Int) (l : List Fd) (b k : Nat) : ((usF id l b k).map Value.bool).length = k := by simp [usF]
theorem bpush {w : World} {B : Nat} {v : Value} {xs : List Value} (h : Own w B 4 v xs) (u : Bool) (hB : B ≤ w.heap.size) (hl : xs.length ≤ 1000) :
    ∃ v' w', (Builtin.append_ #[43, 43] 43 #[v, .slice (some ⟨w.heap.size, 0, none⟩) 1 1]).run Tryd.prog (w.alloc (.cells #[.bool u] 4)) = .ok v' w' ∧ Own w' B 4 v' (xs ++ [.bool u]) ∧ Below B w w' := by
  obtain ⟨ib, hi, hz0, hz1, hz2⟩ := info_parts Tryd.infoBo
  exact Own.push (P := Tryd.prog) (T := 43) Tryd.underlying43 hi hz0 hz1 hz2 rfl h (.bool u) rfl hB (by omega) (by omega)
set_option maxRecDepth 100000 in
set_option maxHeartbeats 1500000 in
theorem rchoose_any (id : Int) (v : Value) (l : List Fd) (w : World) (h : FReads w v l) (hl : l.length ≤ 1000) : Calls Tryd.prog 22 #[.int .i64 id, v] w (GivesC w (choL id l) (choU id l) (choE id l)) := by
  obtain ⟨p, hp⟩ : ∃ p, w.heap.size = p := ⟨_, rfl⟩
  have hF := h
  obtain ⟨a, cap, rfl, _⟩ := h
  have cC : ∀ k, k < l.length → ∀ W, Below w.heap.size w W → Calls Tryd.prog 55 #[.int .i64 id, .slice a l.length cap, .int .i64 (k : Int)] W fun e w' => e = .returned (.bool (cntB id l k)) ∧ Below W.heap.size W w' := fun k hk W hW => rcounts_any id _ l k W (hF.below hW) hk hl
  replace cC := Lib.hid cC
  replace hF := Lib.hid hF
  have b0 : Below p w (w.alloc (.cells #[.int .i64 0, .int .i64 0, .int .i64 0, .int .i64 0, .int .i64 0, .int .i64 0, .slice none 0 0, .slice none 0 0, .slice none 0 0] 26)) := (Below.refl _ _).alloc (by omega) _
  have z0 := LblBox.made w 26
  rw [hp] at z0
  go_enter Tryd.func22, Tryd.ntmps22
  go_upto_region 1 with (fail)
  generalize w.alloc (.cells #[.int .i64 0, .int .i64 0, .int .i64 0, .int .i64 0, .int .i64 0, .int .i64 0, .slice none 0 0, .slice none 0 0, .slice none 0 0] 26) = wb at *
  have hbw : Below w.heap.size w wb := by rw [hp]; exact b0
  have lp := z0.a.lt
  go_wp2_with (fail)
  go_loopw [7, 8] (fun t s wr => ∃ k : Nat, k ≤ l.length ∧ s = .int .i64 (k : Int) ∧ t = .int .i64 (bestV (bestTo id l k)) ∧ Below wb.heap.size wb wr) (fun _ s _ => l.length - (intOf s).toNat)
  case atStart => exact ⟨0, Nat.zero_le _, rfl, rfl, Below.refl _ _⟩
  case round =>
    obtain ⟨k, hk, rfl, rfl, hB⟩ := hrel
    rename World => wr
    have hWr : Below w.heap.size w wr := hbw.trans (hB.mono hbw.size)
    by_cases hlt : k < l.length
    · have y1 : (k : Int) < (l.length : Int) := by omega
      have cK := cC.out k hlt
      replace cK := Lib.hid cK
      cases hc : cntB id l k with
      | false =>
        have HN := Lib.hid (bestTo_no hc)
        rw [hc] at cK
        clear hc
        go_wp2_with (fail)
        refine (cK.out _ hWr).mono ?_
        rintro e w5 ⟨rfl, b5⟩
        have hB5 := hB.trans (b5.mono hB.size)
        go_wp2_with (fail)
        refine wp_region_cls (Below w5.heap.size w5) (by kernel_rfl) (by kernel_rfl) (Below.refl _ _).drew ?_
        intro Z f hne hD hE
        iterate 20 (go_big_quiet_step (fail))
        refine wpQuiet_nil ?_
        intro _ hw'
        obtain ⟨zq, hw''⟩ := hw'
        subst hw''
        have hB2 := hB5.trans ((hD zq).mono hB5.size)
        clear hE
        go_wp2_with (fail)
        go_roundw
        case rel => exact ⟨k + 1, by omega, by go_num, by rw [HN.out], hB2⟩
        case measure => simp [intOf]; omega
      | true =>
        cases hb : bestTo id l k with
        | none =>
          have HN := Lib.hid (bestTo_first hc hb)
          rw [hc] at cK
          clear hc hb
          simp only [bestV]
          go_wp2_with (fail)
          refine (cK.out _ hWr).mono ?_
          rintro e w5 ⟨rfl, b5⟩
          have hB5 := hB.trans (b5.mono hB.size)
          go_wp2_with (fail)
          refine wp_region_cls (Below w5.heap.size w5) (by kernel_rfl) (by kernel_rfl) (Below.refl _ _).drew ?_
          intro Z f hne hD hE
          iterate 20 (go_big_quiet_step (fail))
          refine wpQuiet_nil ?_
          intro _ hw'
          obtain ⟨zq, hw''⟩ := hw'
          subst hw''
          have hB2 := hB5.trans ((hD zq).mono hB5.size)
          clear hE
          go_wp2_with (fail)
          go_roundw
          case rel => exact ⟨k + 1, by omega, by go_num, by rw [HN.out], hB2⟩
          case measure => simp [intOf]; omega
        | some b =>
          have hbl := (bestTo_lt hb).1
          obtain ⟨cb, co, cc, a1, d1, a2, d2, a3, d3, e1, A1, _⟩ := (hF.out.below hWr).at hlt
          obtain ⟨cb', co', cc', a1', d1', a2', d2', a3', d3', e2, A2, _⟩ := (hF.out.below hWr).at (show b < l.length by omega)
          obtain ⟨rfl, rfl⟩ : a = some ⟨cb, co, none⟩ ∧ cap = cc := by simpa using e1
          obtain ⟨⟨rfl, rfl⟩, rfl⟩ : (cb = cb' ∧ co = co') ∧ cap = cc' := by simpa using e2
          clear e1 e2
          have g1 : wr.cell? ⟨cb, co + k * 10 + 3, none⟩ = some (.int .i64 (gAt l k)) := by rw [gAt_at hlt]; exact A1.c2
          have g2 : wr.cell? ⟨cb, co + b * 10 + 3, none⟩ = some (.int .i64 (gAt l b)) := by rw [gAt_at (by omega)]; exact A2.c2
          have glt := A1.lt
          clear A1 A2
          have y2 : (b : Int) < (l.length : Int) := by omega
          have y3 : decide ((b : Int) < 0) = false := by simp
          have y4 : ¬ ((b : Int) < 0) := by omega
          have HN : Hid (bestTo id l (k + 1) = if gAt l k > gAt l b then some k else some b) := Lib.hid (by
            split
            · exact bestTo_more hc hb ‹_›
            · exact bestTo_less hc hb ‹_›)
          rw [hc] at cK
          clear hc hb
          simp only [bestV]
          generalize gAt l k = G1 at *
          generalize gAt l b = G2 at *
          by_cases hg : G1 > G2
          · have hg' : decide (G1 > G2) = true := decide_eq_true hg
            rw [if_pos hg] at HN
            go_wp2_with (fail)
            refine (cK.out _ hWr).mono ?_
            rintro e w5 ⟨rfl, b5⟩
            have hB5 := hB.trans (b5.mono hB.size)
            go_wp2_with (fail)
            refine wp_region_cls (Below w5.heap.size w5) (by kernel_rfl) (by kernel_rfl) (Below.refl _ _).drew ?_
            intro Z f hne hD hE
            have j1 : ∀ z, (f z).cell? ⟨cb, co + k * 10 + 3, none⟩ = some (.int .i64 G1) := fun z => (clsCell hD z _ _ (Nat.lt_of_lt_of_le glt b5.size)).trans ((b5.cell (p := ⟨cb, co + k * 10 + 3, none⟩) glt).trans g1)
            have j2 : ∀ z, (f z).cell? ⟨cb, co + b * 10 + 3, none⟩ = some (.int .i64 G2) := fun z => (clsCell hD z _ _ (Nat.lt_of_lt_of_le glt b5.size)).trans ((b5.cell (p := ⟨cb, co + b * 10 + 3, none⟩) glt).trans g2)
            clear g1 g2
            iterate 20 (go_big_quiet_step (fail))
            refine wpQuiet_nil ?_
            intro _ hw'
            obtain ⟨zq, hw''⟩ := hw'
            subst hw''
            have hB2 := hB5.trans ((hD zq).mono hB5.size)
            clear hE j1 j2
            go_wp2_with (fail)
            go_roundw
            case rel => exact ⟨k + 1, by omega, by go_num, by rw [HN.out], hB2⟩
            case measure => simp [intOf]; omega
          · have hg' : decide (G1 > G2) = false := decide_eq_false hg
            rw [if_neg hg] at HN
            go_wp2_with (fail)
            refine (cK.out _ hWr).mono ?_
            rintro e w5 ⟨rfl, b5⟩
            have hB5 := hB.trans (b5.mono hB.size)
            go_wp2_with (fail)
            refine wp_region_cls (Below w5.heap.size w5) (by kernel_rfl) (by kernel_rfl) (Below.refl _ _).drew ?_
            intro Z f hne hD hE
            have j1 : ∀ z, (f z).cell? ⟨cb, co + k * 10 + 3, none⟩ = some (.int .i64 G1) := fun z => (clsCell hD z _ _ (Nat.lt_of_lt_of_le glt b5.size)).trans ((b5.cell (p := ⟨cb, co + k * 10 + 3, none⟩) glt).trans g1)
            have j2 : ∀ z, (f z).cell? ⟨cb, co + b * 10 + 3, none⟩ = some (.int .i64 G2) := fun z => (clsCell hD z _ _ (Nat.lt_of_lt_of_le glt b5.size)).trans ((b5.cell (p := ⟨cb, co + b * 10 + 3, none⟩) glt).trans g2)
            clear g1 g2
            iterate 20 (go_big_quiet_step (fail))
            refine wpQuiet_nil ?_
            intro _ hw'
            obtain ⟨zq, hw''⟩ := hw'
            subst hw''
            have hB2 := hB5.trans ((hD zq).mono hB5.size)
            clear hE j1 j2
            go_wp2_with (fail)
            go_roundw
            case rel => exact ⟨k + 1, by omega, by go_num, by rw [HN.out], hB2⟩
            case measure => simp [intOf]; omega
    · obtain rfl : k = l.length := by omega
      have y1 : ¬ ((l.length : Int) < (l.length : Int)) := by omega
      have z1 := z0.below hB lp
      have B1 := b0.trans (hB.mono (by omega))
      have sB := hB.size
      cases hb : bestTo id l l.length with
      | none =>
        have hL : Hid (choL id l = noLbl ∧ choU id l = [] ∧ choE id l = 101) := Lib.hid ⟨by rw [choL, hb], by rw [choU, hb], by rw [choE, hb]⟩
        clear hb cC hF z0 b0 hbw hB hWr
        simp only [bestV]
        have ⟨t0, t1, t2, t3, t4, t5, t6, t7, t8, tlt⟩ := z1.a
        have u0 := z1.f 0
        have u1 := z1.f 1
        have u2 := z1.f 2
        have u3 := z1.f 3
        have u4 := z1.f 4
        have u5 := z1.f 5
        have u6 := z1.f 6
        have u7 := z1.f 7
        have u8 := z1.f 8
        go_wp2_with (fail)
        refine bodyPost_ret (rres_cho (z1.put noLbl (.slice none 0 0) (.slice none 0 0) (.slice none 0 0)) rfl rfl rfl) rfl ?_
        rw [hL.out.1, hL.out.2.1, hL.out.2.2]
        refine ⟨_, _, _, _, rfl, O3.nil _ _ _ rfl rfl rfl, Own.nil _ _ _, ?_⟩
        rw [hp]
        exact setL_below B1 (Nat.le_refl p) noLbl (.slice none 0 0) (.slice none 0 0) (.slice none 0 0)
      | some b =>
        obtain ⟨hbl, hcb⟩ := bestTo_lt hb
        obtain ⟨_, q1, q2, q3, q7⟩ := cnt_lens hcb
        have hL : Hid (choL id l = l[b].x ∧ choU id l = uses id l b ∧ choE id l = 0) := Lib.hid ⟨by rw [choL, hb]; simp only; rw [List.getElem?_eq_getElem hbl], by rw [choU, hb], by rw [choE, hb]⟩
        have hus := Lib.hid fun i (hi : i < l.length) => useB_at (id := id) hbl hi
        have hcl := Lib.hid fun i (h : cntB id l i = true) => cnt_lens h
        obtain ⟨cb, co, cc, a1, d1, a2, d2, a3, d3, e1, A1, L1⟩ := (hF.out.below hWr).at hbl
        obtain ⟨rfl, rfl⟩ : a = some ⟨cb, co, none⟩ ∧ cap = cc := by simpa using e1
        clear e1
        have y2 : (b : Int) < (l.length : Int) := by omega
        have y3 : decide ((b : Int) < 0) = false := by simp
        have y4 : ¬ ((b : Int) < 0) := by omega
        clear hb hcb z0 b0 hB
        simp only [bestV]
        rw [q1, q2, q3] at A1 L1
        obtain ⟨X, hX⟩ : ∃ X, l[b].x = X := ⟨_, rfl⟩
        simp only [hX] at A1 L1 q1 q2 q3 hL
        have hus' : Hid (∀ i (hi : i < l.length), useB id l b i = (cntB id l i && (geoB l[i].x X && (l[i].x.bo.getD i 0 == X.bo.getD i 0)))) := Lib.hid fun i hi => by rw [hus.out i hi, hX]
        clear hus hX
        replace q1 := Lib.hid q1
        replace q2 := Lib.hid q2
        replace q3 := Lib.hid q3
        have cP := rcopied_any X _ _ _ wr L1 (by rw [q1.out]; omega) (by rw [q2.out]; omega) (by rw [q3.out]; omega)
        unfold Lbl.v at cP
        have ⟨f0, i0, i1, i2, i3, i4, i5, i6, i7, i8, ilt⟩ := A1
        go_wp2_with (fail)
        refine cP.mono ?_
        rintro e w2 ⟨va, vb, vc, rfl, o2, b2⟩
        have z2 := z1.below b2 z1.a.lt
        have B2 := B1.trans (b2.mono (by omega))
        have W2 := below_c hWr b2
        have s2 := b2.size
        obtain ⟨A1', D1, rfl⟩ := o2.a.isSlice
        obtain ⟨A2, D2, rfl⟩ := o2.b.isSlice
        obtain ⟨A3, D3, rfl⟩ := o2.c.isSlice
        simp only [Lbl.v, List.length_map]
        simp only [List.length_map] at o2
        rw [q1.out, q2.out, q3.out] at o2 ⊢
        clear f0 i0 i1 i2 i3 i4 i5 i6 i7 i8 ilt A1 z1 B1 L1 hWr b2 cP
        have Yx := LblAt.made w2 X (.slice A1' l.length D1) (.slice A2 l.length D2) (.slice A3 l.length D3) 26
        have bY : Below w2.heap.size w2 (w2.alloc (.cells #[.int .i64 X.i, .int .i64 X.s, .int .i64 X.g, .int .i64 X.k, .int .i64 X.m, .int .i64 X.b, .slice A1' l.length D1, .slice A2 l.length D2, .slice A3 l.length D3] 26)) := (Below.refl _ _).alloc (Nat.le_refl _) _
        go_upto_region 11 with (fail)
        have z3 := z2.below bY z2.a.lt
        have B3 := B2.trans (bY.mono (by omega))
        have o3 := o2.after bY
        have W3 := below_c W2 bY
        have hz3 : (w2.alloc (.cells #[.int .i64 X.i, .int .i64 X.s, .int .i64 X.g, .int .i64 X.k, .int .i64 X.m, .int .i64 X.b, .slice A1' l.length D1, .slice A2 l.length D2, .slice A3 l.length D3] 26)).heap.size = w2.heap.size + 1 := by simp
        clear z2 B2 o2 W2 bY
        generalize w2.alloc (.cells #[.int .i64 X.i, .int .i64 X.s, .int .i64 X.g, .int .i64 X.k, .int .i64 X.m, .int .i64 X.b, .slice A1' l.length D1, .slice A2 l.length D2, .slice A3 l.length D3] 26) = w3 at *
        obtain ⟨q, hq⟩ : ∃ q, w2.heap.size = q := ⟨_, rfl⟩
        rw [hq] at Yx hz3 s2 ⊢
        have hqp : p < q := by omega
        clear hq
        go_wp2_with (fail)
        obtain ⟨gu, hgu⟩ : ∃ g, w3.heap.size = g := ⟨_, rfl⟩
        have hgq : q < gu := by omega
        have hpw : p ≤ wr.heap.size := by omega
        have o30 := Lib.hid (Own.nil w3 gu 4)
        replace hgu := Lib.hid hgu
        go_loopw [11, 12] (fun t s ws => ∃ k : Nat, k ≤ l.length ∧ s = .int .i64 (k : Int) ∧ Own ws gu 4 t ((usF id l b k).map .bool) ∧ Below gu w3 ws) (fun _ s _ => l.length - (intOf s).toNat)
        case atStart => exact ⟨0, Nat.zero_le _, rfl, o30.out, Below.refl _ _⟩
        case round =>
          obtain ⟨k, hk, rfl, hO, hB⟩ := hrel
          rename World => ws
          clear o30
          by_cases hlt : k < l.length
          · have y5 : (k : Int) < (l.length : Int) := by omega
            have sB3 := hB.size
            have sg := hgu.out
            have Bw : Below w.heap.size w ws := W3.trans (hB.mono (by have := W3.size; omega))
            have HV := hus'.out k hlt
            have hcl2 : cntB id l k = true → l[k].x.bo.length = l.length := fun h => by obtain ⟨_, _, h2, _⟩ := hcl.out k h; exact h2
            have cK := Lib.hid (cC.out k hlt)
            have hkl : k ≤ 7 := by omega
            go_wp2_with (fail)
            refine (cK.out _ Bw).mono ?_
            rintro e w5 ⟨rfl, b5⟩
            have s5 := b5.size
            have Bw5 := below_c Bw b5
            have O5 := hO.after b5
            have B5 := hB.trans (b5.mono (by omega))
            have xa := (Yx.below (hB.mono (by omega)) Yx.lt).below b5 (by have := Yx.lt; omega)
            obtain ⟨cb', co', cc', b1, e1, b2, e2, b3, e3, eq1, A0, L1⟩ := hF.out.at hlt
            obtain ⟨⟨rfl, rfl⟩, rfl⟩ : (cb = cb' ∧ co = co') ∧ cap = cc' := by simpa using eq1
            have L3 := o3.lr (by rw [q1.out]; omega) (by rw [q2.out]; omega) (by rw [q3.out]; omega)
            generalize l[k].x = Y at *
            obtain ⟨ja, jc, jr, jn⟩ := L1.b.nums
            obtain ⟨ka, kc, kr, kn⟩ := L3.b.nums
            obtain ⟨rfl, rfl⟩ : b2 = ja ∧ e2 = jc := by simpa using jr
            obtain ⟨rfl, hxx, rfl⟩ : A2 = ka ∧ l.length = X.bo.length ∧ D2 = kc := by simpa using kr
            clear hxx
            obtain ⟨xb, xo, rfl, xlt, xc⟩ := kn k (by rw [q2.out]; exact hlt)
            have hl1 := usF_len id l b k
            have HR := Lib.hid (usF_step id l b k)
            have hqg := fun W => eql_geo W Y.k Y.m Y.b X.k X.m X.b
            have hgg := eql_geo_guard
            have A1 := A0.below Bw5 A0.lt
            have lcb : cb < gu := by have := A0.lt; have := W3.size; omega
            have lw : w.heap.size ≤ gu := by have := W3.size; omega
            have lxb : xb < gu := by rw [← sg]; exact xlt
            replace xc : w5.cell? ⟨xb, xo + k, none⟩ = _ := (B5.cell (p := ⟨xb, xo + k, none⟩) lxb).trans xc
            replace xlt := Nat.lt_of_lt_of_le lxb (show gu ≤ w5.heap.size by omega)
            clear A0
            clear eq1 jr kr kn L1 L3 hB Bw hO cK
            have ⟨f0, i0, i1, i2, i3, i4, i5, i6, i7, i8, ilt⟩ := A1
            have ⟨x0, x1, x2, x3, x4, x5, x6, x7, x8, xlt2⟩ := xa
            cases hc : cntB id l k with
            | false =>
              rw [hc] at HV
              rw [Bool.false_and] at HV
              go_wp2_with (fail)
              refine wp_region_cls_tail1 (o0 := ⟨some 64, _, _, _, _, _⟩) (Below w5.heap.size w5) 30 (v0 := u11) (by kernel_rfl) rfl rfl (by kernel_rfl) (by kernel_rfl) (by kernel_rfl) (fun _ _ _ h => h) (Or.inl ⟨by rfl, fun w => by go_simp⟩) (Below.refl _ _).drew ?_
              intro Z f hne hD hE
              have r0 : ∀ z, (f z).cell? ⟨cb, co + k * 10 + 4, none⟩ = some (.int .i64 Y.k) := fun z => (clsCell hD z _ _ ilt).trans i3
              have r1 : ∀ z, (f z).cell? ⟨cb, co + k * 10 + 5, none⟩ = some (.int .i64 Y.m) := fun z => (clsCell hD z _ _ ilt).trans i4
              have r2 : ∀ z, (f z).cell? ⟨cb, co + k * 10 + 6, none⟩ = some (.int .i64 Y.b) := fun z => (clsCell hD z _ _ ilt).trans i5
              have r3 : ∀ z, (f z).cell? ⟨cb, co + k * 10 + 8, none⟩ = some (.slice b2 Y.bo.length e2) := fun z => (clsCell hD z _ _ ilt).trans i7
              have r4 : ∀ z, (f z).cell? ⟨q, 3, none⟩ = some (.int .i64 X.k) := fun z => (clsCell hD z _ _ xlt2).trans x3
              have r5 : ∀ z, (f z).cell? ⟨q, 4, none⟩ = some (.int .i64 X.m) := fun z => (clsCell hD z _ _ xlt2).trans x4
              have r6 : ∀ z, (f z).cell? ⟨q, 5, none⟩ = some (.int .i64 X.b) := fun z => (clsCell hD z _ _ xlt2).trans x5
              have r7 : ∀ z, (f z).cell? ⟨q, 7, none⟩ = some (.slice (some ⟨xb, xo, none⟩) l.length D2) := fun z => (clsCell hD z _ _ xlt2).trans x7
              simp only [List.take_succ_cons, List.take_zero, List.drop_succ_cons, List.drop_zero, Act.put, List.setIfInBounds_toArray, List.set_cons_succ, List.set_cons_zero]
              iterate 29 (go_big_quiet_step (fail))
              refine wpQuiet_nil ?_
              intro _ hw'
              obtain ⟨zq, hw''⟩ := hw'
              subst hw''
              have sz := (hD zq).size
              have Oz := O5.after (hD zq)
              obtain ⟨v', w6, hap, o6, b6⟩ := bpush Oz false (by show gu ≤ (f zq).heap.size; omega) (by omega)
              have B6 := (B5.trans ((hD zq).mono (by omega))).trans b6
              replace o6 := Lib.hid o6
              clear hE r0 r1 r2 r3 r4 r5 r6 r7
              go_wp2_with (at_builtin; refine wpList_append_run hap _ _ rfl rfl rfl rfl rfl ?_)
              go_roundw
              case rel => exact ⟨k + 1, by omega, by go_num, by rw [HR.out, HV]; exact o6.out, B6⟩
              case measure => simp [intOf]; omega
            | true =>
              have hbl2 := hcl2 hc
              obtain ⟨yb, yo, rfl, ylt, yc⟩ := jn k (by omega)
              have lyb : yb < gu := by omega
              replace yc : w5.cell? ⟨yb, yo + k, none⟩ = _ := (Bw5.cell (p := ⟨yb, yo + k, none⟩) ylt).trans yc
              replace ylt := Nat.lt_of_lt_of_le lyb (show gu ≤ w5.heap.size by omega)
              rw [hc] at HV
              rw [Bool.true_and] at HV
              clear hcl2
              simp only [hbl2] at i7
              have hG : geoB Y X = (Y.k == X.k && Y.m == X.m && Y.b == X.b) := rfl
              rw [hG] at HV
              cases hg : (Y.k == X.k && Y.m == X.m && Y.b == X.b) with
              | false =>
                rw [hg, Bool.false_and] at HV
                go_wp2_with (fail)
                refine wp_region_cls_tail1 (o0 := ⟨some 64, _, _, _, _, _⟩) (Below w5.heap.size w5) 30 (v0 := u11) (by kernel_rfl) rfl rfl (by kernel_rfl) (by kernel_rfl) (by kernel_rfl) (fun _ _ _ h => h) (Or.inl ⟨by rfl, fun w => by go_simp⟩) (Below.refl _ _).drew ?_
                intro Z f hne hD hE
                have r0 : ∀ z, (f z).cell? ⟨cb, co + k * 10 + 4, none⟩ = some (.int .i64 Y.k) := fun z => (clsCell hD z _ _ ilt).trans i3
                have r1 : ∀ z, (f z).cell? ⟨cb, co + k * 10 + 5, none⟩ = some (.int .i64 Y.m) := fun z => (clsCell hD z _ _ ilt).trans i4
                have r2 : ∀ z, (f z).cell? ⟨cb, co + k * 10 + 6, none⟩ = some (.int .i64 Y.b) := fun z => (clsCell hD z _ _ ilt).trans i5
                have r3 : ∀ z, (f z).cell? ⟨cb, co + k * 10 + 8, none⟩ = some (.slice (some ⟨yb, yo, none⟩) l.length e2) := fun z => (clsCell hD z _ _ ilt).trans i7
                have r4 : ∀ z, (f z).cell? ⟨q, 3, none⟩ = some (.int .i64 X.k) := fun z => (clsCell hD z _ _ xlt2).trans x3
                have r5 : ∀ z, (f z).cell? ⟨q, 4, none⟩ = some (.int .i64 X.m) := fun z => (clsCell hD z _ _ xlt2).trans x4
                have r6 : ∀ z, (f z).cell? ⟨q, 5, none⟩ = some (.int .i64 X.b) := fun z => (clsCell hD z _ _ xlt2).trans x5
                have r7 : ∀ z, (f z).cell? ⟨q, 7, none⟩ = some (.slice (some ⟨xb, xo, none⟩) l.length D2) := fun z => (clsCell hD z _ _ xlt2).trans x7
                simp only [List.take_succ_cons, List.take_zero, List.drop_succ_cons, List.drop_zero, Act.put, List.setIfInBounds_toArray, List.set_cons_succ, List.set_cons_zero]
                iterate 29 (go_big_quiet_step (fail))
                refine wpQuiet_nil ?_
                intro _ hw'
                obtain ⟨zq, hw''⟩ := hw'
                subst hw''
                have sz := (hD zq).size
                have Oz := O5.after (hD zq)
                obtain ⟨v', w6, hap, o6, b6⟩ := bpush Oz false (by show gu ≤ (f zq).heap.size; omega) (by omega)
                have B6 := (B5.trans ((hD zq).mono (by omega))).trans b6
                replace o6 := Lib.hid o6
                clear hE r0 r1 r2 r3 r4 r5 r6 r7
                go_wp2_with (at_builtin; refine wpList_append_run hap _ _ rfl rfl rfl rfl rfl ?_)
                go_roundw
                case rel => exact ⟨k + 1, by omega, by go_num, by rw [HR.out, HV]; exact o6.out, B6⟩
                case measure => simp [intOf]; omega
              | true =>
                rw [hg, Bool.true_and] at HV
                generalize Y.bo.getD k 0 = V1 at *
                generalize X.bo.getD k 0 = V2 at *
                go_wp2_with (fail)
                refine wp_region_cls_tail1 (o0 := ⟨some 64, _, _, _, _, _⟩) (Below w5.heap.size w5) 30 (v0 := u11) (by kernel_rfl) rfl rfl (by kernel_rfl) (by kernel_rfl) (by kernel_rfl) (fun _ _ _ h => h) (Or.inl ⟨by rfl, fun w => by go_simp⟩) (Below.refl _ _).drew ?_
                intro Z f hne hD hE
                have r0 : ∀ z, (f z).cell? ⟨cb, co + k * 10 + 4, none⟩ = some (.int .i64 Y.k) := fun z => (clsCell hD z _ _ ilt).trans i3
                have r1 : ∀ z, (f z).cell? ⟨cb, co + k * 10 + 5, none⟩ = some (.int .i64 Y.m) := fun z => (clsCell hD z _ _ ilt).trans i4
                have r2 : ∀ z, (f z).cell? ⟨cb, co + k * 10 + 6, none⟩ = some (.int .i64 Y.b) := fun z => (clsCell hD z _ _ ilt).trans i5
                have r3 : ∀ z, (f z).cell? ⟨cb, co + k * 10 + 8, none⟩ = some (.slice (some ⟨yb, yo, none⟩) l.length e2) := fun z => (clsCell hD z _ _ ilt).trans i7
                have r4 : ∀ z, (f z).cell? ⟨q, 3, none⟩ = some (.int .i64 X.k) := fun z => (clsCell hD z _ _ xlt2).trans x3
                have r5 : ∀ z, (f z).cell? ⟨q, 4, none⟩ = some (.int .i64 X.m) := fun z => (clsCell hD z _ _ xlt2).trans x4
                have r6 : ∀ z, (f z).cell? ⟨q, 5, none⟩ = some (.int .i64 X.b) := fun z => (clsCell hD z _ _ xlt2).trans x5
                have r7 : ∀ z, (f z).cell? ⟨q, 7, none⟩ = some (.slice (some ⟨xb, xo, none⟩) l.length D2) := fun z => (clsCell hD z _ _ xlt2).trans x7
                have r8 : ∀ z, (f z).cell? ⟨yb, yo + k, none⟩ = some (.int .i64 V1) := fun z => (clsCell hD z _ _ ylt).trans yc
                have r9 : ∀ z, (f z).cell? ⟨xb, xo + k, none⟩ = some (.int .i64 V2) := fun z => (clsCell hD z _ _ xlt).trans xc
                simp only [List.take_succ_cons, List.take_zero, List.drop_succ_cons, List.drop_zero, Act.put, List.setIfInBounds_toArray, List.set_cons_succ, List.set_cons_zero]
                iterate 29 (go_big_quiet_step (fail))
                refine wpQuiet_nil ?_
                intro _ hw'
                obtain ⟨zq, hw''⟩ := hw'
                subst hw''
                have sz := (hD zq).size
                have Oz := O5.after (hD zq)
                obtain ⟨v', w6, hap, o6, b6⟩ := bpush Oz (V1 == V2) (by show gu ≤ (f zq).heap.size; omega) (by omega)
                have B6 := (B5.trans ((hD zq).mono (by omega))).trans b6
                replace o6 := Lib.hid o6
                clear hE r0 r1 r2 r3 r4 r5 r6 r7 r8 r9
                go_wp2_with (at_builtin; refine wpList_append_run hap _ _ rfl rfl rfl rfl rfl ?_)
                go_roundw
                case rel => exact ⟨k + 1, by omega, by go_num, by rw [HR.out, HV]; exact o6.out, B6⟩
                case measure => simp [intOf]; omega
          · obtain rfl : k = l.length := by omega
            have y5 : ¬ ((l.length : Int) < (l.length : Int)) := by omega
            change Own ws gu 4 _ ((uses id l b).map .bool) at hO
            have sg := hgu.out
            have xa := Yx.below (hB.mono (by omega)) Yx.lt
            have za := z3.below hB (by omega)
            have Ba := B3.trans (hB.mono (by omega))
            have Oa := o3.after (show Below w3.heap.size w3 ws by rw [sg]; exact hB)
            have hgl := hB.size
            have ⟨i0, i1, i2, i3, i4, i5, i6, i7, i8, ilt⟩ := xa
            have ⟨t0, t1, t2, t3, t4, t5, t6, t7, t8, tlt⟩ := za.a
            have u0 := za.f 0
            have u1 := za.f 1
            have u2 := za.f 2
            have u3 := za.f 3
            have u4 := za.f 4
            have u5 := za.f 5
            have u6 := za.f 6
            have u7 := za.f 7
            have u8 := za.f 8
            go_wp2_with (fail)
            refine bodyPost_ret (rres_cho (za.put X (.slice A1' l.length D1) (.slice A2 l.length D2) (.slice A3 l.length D3)) rfl rfl rfl) rfl ?_
            rw [hL.out.1, hL.out.2.1, hL.out.2.2]
            refine ⟨_, _, _, _, rfl, (Oa.heap fun k hk _ => setL_heap _ _ _ _ _ _ _ (by omega)).mono (by omega), own_setL hO (by omega) (by omega) X (.slice A1' l.length D1) (.slice A2 l.length D2) (.slice A3 l.length D3), ?_⟩
            rw [hp]
            exact setL_below Ba (Nat.le_refl p) X (.slice A1' l.length D1) (.slice A2 l.length D2) (.slice A3 l.length D3)
end Go.Proofs.YtaopknddpagjeaaDoor
