/- label: what comes next, walked. -/
import Derived.Test.YtaopknddpagjeaaDoorLabBox
import Derived.Test.YtaopknddpagjeaaDoorLabCopy
import Derived.Test.YtaopknddpagjeaaDoorLabWalk5
namespace Go.Proofs.YtaopknddpagjeaaDoor
open Go.RowKit
set_option linter.unusedVariables false
set_option linter.unusedSimpArgs false
open Lb

theorem res_rnext {tm : Array Value} {W : World} {b : Nat} {x : Lbl} {vs vb vc : Value} {n : Int} (h : LblBox W b x vs vb vc) (h2 : tm.getD 4 undef = .pointer (some ⟨b, 0, none⟩)) (h3 : tm.getD 5 undef = .int .i64 n) :
    (results Tryd.f24 tm).run Tryd.prog W = .ok (.tuple #[x.v vs vb vc, .int .i64 n]) W := by
  have h2' : tm[4]?.getD undef = .pointer (some ⟨b, 0, none⟩) := by simpa using h2
  have h3' : tm[5]?.getD undef = .int .i64 n := by simpa using h3
  simp [results, Tryd.results24, go_sem, h2', h3', h.a.c0, h.a.c1, h.a.c2, h.a.c3, h.a.c4, h.a.c5, h.a.c6, h.a.c7, h.a.c8, Lbl.v]
set_option maxRecDepth 100000 in
set_option maxHeartbeats 2000000 in
theorem rnext_any (x : Lbl) (us : List Bool) (vs vb vc v : Value) (w : World) (h : LR w x vs vb vc) (hu : Reads w v (us.map .bool)) (hul : us.length ≤ 140737488355328) :
    Calls Tryd.prog 24 #[x.v vs vb vc, v] w (GivesN w (nextL x us) (nextE x us)) := by
  unfold Lbl.v
  obtain ⟨sa, sd, rfl⟩ := h.s.isSlice
  obtain ⟨ba, bd, rfl⟩ := h.b.isSlice
  obtain ⟨ca, cd, rfl⟩ := h.c.isSlice
  rw [List.length_map] at h
  simp only [List.length_map] at h ⊢
  obtain ⟨ua, ud, rfl, hug⟩ := hu.items
  obtain ⟨p, hp⟩ : ∃ p, w.heap.size = p := ⟨_, rfl⟩
  have bw : Below p w ((w.alloc (.cells #[.int .i64 x.i, .int .i64 x.s, .int .i64 x.g, .int .i64 x.k, .int .i64 x.m, .int .i64 x.b, (.slice sa x.st.length sd), (.slice ba x.bo.length bd), (.slice ca x.cu.length cd)] 26)).alloc (.cells #[.int .i64 0, .int .i64 0, .int .i64 0, .int .i64 0, .int .i64 0, .int .i64 0, .slice none 0 0, .slice none 0 0, .slice none 0 0] 26)) := ((Below.refl _ _).alloc (by omega) _).alloc (by simp; omega) _
  have ba' : Below (p + 1) (w.alloc (.cells #[.int .i64 x.i, .int .i64 x.s, .int .i64 x.g, .int .i64 x.k, .int .i64 x.m, .int .i64 x.b, (.slice sa x.st.length sd), (.slice ba x.bo.length bd), (.slice ca x.cu.length cd)] 26)) ((w.alloc (.cells #[.int .i64 x.i, .int .i64 x.s, .int .i64 x.g, .int .i64 x.k, .int .i64 x.m, .int .i64 x.b, (.slice sa x.st.length sd), (.slice ba x.bo.length bd), (.slice ca x.cu.length cd)] 26)).alloc (.cells #[.int .i64 0, .int .i64 0, .int .i64 0, .int .i64 0, .int .i64 0, .int .i64 0, .slice none 0 0, .slice none 0 0, .slice none 0 0] 26)) := (Below.refl _ _).alloc (by simp; omega) _
  have xa : LblBox (w.alloc (.cells #[.int .i64 x.i, .int .i64 x.s, .int .i64 x.g, .int .i64 x.k, .int .i64 x.m, .int .i64 x.b, (.slice sa x.st.length sd), (.slice ba x.bo.length bd), (.slice ca x.cu.length cd)] 26)) w.heap.size x (.slice sa x.st.length sd) (.slice ba x.bo.length bd) (.slice ca x.cu.length cd) := ⟨LblAt.made w x (.slice sa x.st.length sd) (.slice ba x.bo.length bd) (.slice ca x.cu.length cd) 26, fun o => frozen_of_row _ _ _ _ _ (heap_alloc_new _ _)⟩
  have xb := xa.below ba' (by omega)
  have zb := LblBox.made (w.alloc (.cells #[.int .i64 x.i, .int .i64 x.s, .int .i64 x.g, .int .i64 x.k, .int .i64 x.m, .int .i64 x.b, (.slice sa x.st.length sd), (.slice ba x.bo.length bd), (.slice ca x.cu.length cd)] 26)) 26
  rw [show (w.alloc (.cells #[.int .i64 x.i, .int .i64 x.s, .int .i64 x.g, .int .i64 x.k, .int .i64 x.m, .int .i64 x.b, (.slice sa x.st.length sd), (.slice ba x.bo.length bd), (.slice ca x.cu.length cd)] 26)).heap.size = p + 1 by simp [hp]] at zb
  rw [hp] at xb
  clear ba' xa
  have lx1 : x.st.length ≤ 140737488355328 := h.ls
  have hgl : Hid (nextL x us = if rightB x && (!(x.g == 1099511627776) && decide (us.length = x.st.length)) then nexted x us else noLbl) := Lib.hid rfl
  have hge : Hid (nextE x us = if rightB x && (!(x.g == 1099511627776) && decide (us.length = x.st.length)) then 0 else 100) := Lib.hid rfl
  go_enter Tryd.func24, Tryd.ntmps24
  go_upto_region 1 with (fail)
  generalize (w.alloc (.cells #[.int .i64 x.i, .int .i64 x.s, .int .i64 x.g, .int .i64 x.k, .int .i64 x.m, .int .i64 x.b, (.slice sa x.st.length sd), (.slice ba x.bo.length bd), (.slice ca x.cu.length cd)] 26)).alloc (.cells #[.int .i64 0, .int .i64 0, .int .i64 0, .int .i64 0, .int .i64 0, .int .i64 0, .slice none 0 0, .slice none 0 0, .slice none 0 0] 26) = wb at *
  have s1 : p + 1 < wb.heap.size := zb.a.lt
  have Lb' := h.below (show Below w.heap.size w wb by rw [hp]; exact bw)
  have cR := rright10_any x (.slice sa x.st.length sd) (.slice ba x.bo.length bd) (.slice ca x.cu.length cd) wb Lb'
  unfold Lbl.v at cR
  have hug' : ∀ i (hi : i < us.length), ∃ cb co, ua = some ⟨cb, co, none⟩ ∧ cb < p ∧ w.cell? ⟨cb, co + i, none⟩ = some (.bool us[i]) := fun i hi => by rw [← hp]; exact hug i hi
  replace hug' := Lib.hid hug'
  clear hug
  have ⟨e0, e1, e2, e3, e4, e5, e6, e7, e8, elt⟩ := xb.a
  go_wp2_with (fail)
  refine cR.mono ?_
  rintro e w2 ⟨rfl, b2⟩
  have x2 := xb.below b2 (by omega)
  have z2 := zb.below b2 s1
  have B2 := bw.trans (b2.mono (by omega))
  have L2 := Lb'.below b2
  have s2 := b2.size
  clear e0 e1 e2 e3 e4 e5 e6 e7 e8 elt xb zb bw Lb' cR
  have ⟨e0, e1, e2, e3, e4, e5, e6, e7, e8, elt⟩ := x2.a
  have ⟨t0, t1, t2, t3, t4, t5, t6, t7, t8, tlt⟩ := z2.a
  have u0 := z2.f 0
  have u1 := z2.f 1
  have u2 := z2.f 2
  have u3 := z2.f 3
  have u4 := z2.f 4
  have u5 := z2.f 5
  have u6 := z2.f 6
  have u7 := z2.f 7
  have u8 := z2.f 8
  cases hr : rightB x with
  | false =>
    rw [hr] at hgl hge
    replace hgl : Hid (nextL x us = noLbl) := Lib.hid (by rw [hgl.out]; simp)
    replace hge : Hid (nextE x us = 100) := Lib.hid (by rw [hge.out]; simp)
    clear hr
    go_wp2_with (fail)
    refine bodyPost_ret (res_rnext (z2.put noLbl (.slice none 0 0) (.slice none 0 0) (.slice none 0 0)) rfl rfl) rfl ?_
    rw [hgl.out, hge.out]
    refine ⟨_, _, _, rfl, O3.nil _ _ _ rfl rfl rfl, ?_⟩
    rw [hp]
    exact setL_below B2 (by omega) noLbl (.slice none 0 0) (.slice none 0 0) (.slice none 0 0)
  | true =>
    rw [hr] at hgl hge
    cases hg : (x.g == 1099511627776) with
    | true =>
      rw [hg] at hgl hge
      replace hgl : Hid (nextL x us = noLbl) := Lib.hid (by rw [hgl.out]; simp)
      replace hge : Hid (nextE x us = 100) := Lib.hid (by rw [hge.out]; simp)
      clear hr
      go_wp2_with (fail)
      refine bodyPost_ret (res_rnext (z2.put noLbl (.slice none 0 0) (.slice none 0 0) (.slice none 0 0)) rfl rfl) rfl ?_
      rw [hgl.out, hge.out]
      refine ⟨_, _, _, rfl, O3.nil _ _ _ rfl rfl rfl, ?_⟩
      rw [hp]
      exact setL_below B2 (by omega) noLbl (.slice none 0 0) (.slice none 0 0) (.slice none 0 0)
    | false =>
      rw [hg] at hgl hge
      cases hn : decide (us.length = x.st.length) with
      | false =>
        rw [hn] at hgl hge
        replace hgl : Hid (nextL x us = noLbl) := Lib.hid (by rw [hgl.out]; simp)
        replace hge : Hid (nextE x us = 100) := Lib.hid (by rw [hge.out]; simp)
        have hn1 : ((us.length : Int) == (x.st.length : Int)) = false := by
          have := of_decide_eq_false hn
          rw [Bool.eq_false_iff]; intro e; exact this (by have := of_decide_eq_true e; omega)
        have hn2 : ((us.length : Int) != (x.st.length : Int)) = true := by rw [bne, hn1]; rfl
        clear hr hn
        go_wp2_with (fail)
        refine bodyPost_ret (res_rnext (z2.put noLbl (.slice none 0 0) (.slice none 0 0) (.slice none 0 0)) rfl rfl) rfl ?_
        rw [hgl.out, hge.out]
        refine ⟨_, _, _, rfl, O3.nil _ _ _ rfl rfl rfl, ?_⟩
        rw [hp]
        exact setL_below B2 (by omega) noLbl (.slice none 0 0) (.slice none 0 0) (.slice none 0 0)
      | true =>
        rw [hn] at hgl hge
        replace hgl : Hid (nextL x us = nexted x us) := Lib.hid (by rw [hgl.out]; simp)
        replace hge : Hid (nextE x us = 0) := Lib.hid (by rw [hge.out]; simp)
        have hn0 := of_decide_eq_true hn
        have hR := (right_iff x).1 hr
        obtain ⟨N, hN, q1, q2, q3, N2, N7⟩ := hR.nat
        have hgr := hR.g
        have hg' : ¬ x.g = 1099511627776 := by simpa using hg
        have hn1 : ((us.length : Int) == (x.st.length : Int)) = true := by rw [beq_iff_eq]; omega
        have hn2 : ((us.length : Int) != (x.st.length : Int)) = false := by rw [bne, hn1]; rfl
        clear hn hr hR
        replace q1 := Lib.hid q1
        replace q2 := Lib.hid q2
        replace q3 := Lib.hid q3
        replace hN := Lib.hid hN
        replace hn0 := Lib.hid hn0
        have cC := rcopied_any x (.slice sa x.st.length sd) (.slice ba x.bo.length bd) (.slice ca x.cu.length cd) w2 L2 (by rw [q1.out]; omega) (by rw [q2.out]; omega) (by rw [q3.out]; omega)
        unfold Lbl.v at cC
        go_wp2_with (fail)
        refine cC.mono ?_
        rintro e w3 ⟨va, vb, vc, rfl, o3, b3⟩
        have x3 := x2.below b3 elt
        have z3 := z2.below b3 tlt
        have B3 := B2.trans (b3.mono (by omega))
        have s3 := b3.size
        obtain ⟨ga, da, rfl, hga, hga'⟩ := o3.a.form (by rw [List.length_map, q1.out]; omega)
        obtain ⟨gb, db, rfl, hgb, hgb'⟩ := o3.b.form (by rw [List.length_map, q2.out]; omega)
        obtain ⟨gc, dc, rfl, hgc, hgc'⟩ := o3.c.form (by rw [List.length_map, q3.out]; omega)
        simp only [List.length_map] at o3 ⊢
        rw [q1.out, q2.out, q3.out] at o3 ⊢
        clear e0 e1 e2 e3 e4 e5 e6 e7 e8 elt t0 t1 t2 t3 t4 t5 t6 t7 t8 tlt u0 u1 u2 u3 u4 u5 u6 u7 u8 x2 z2 B2 L2 b3 cC
        simp only [Lbl.v]
        have y1 : x.g + 1 ≤ 1099511627777 := by omega
        have ⟨e0, e1, e2, e3, e4, e5, e6, e7, e8, elt⟩ := x3.a
        have u0 := x3.f 0
        have u1 := x3.f 1
        have u2 := x3.f 2
        have u3 := x3.f 3
        have u4 := x3.f 4
        have u5 := x3.f 5
        have u6 := x3.f 6
        have u7 := x3.f 7
        have u8 := x3.f 8
        go_upto_region 5 with (fail)
        clear e0 e1 e2 e3 e4 e5 e6 e7 e8 elt u0 u1 u2 u3 u4 u5 u6 u7 u8
        have Y := x3.put x (.slice (some ⟨ga, 0, none⟩) N da) (.slice (some ⟨gb, 0, none⟩) N db) (.slice (some ⟨gc, 0, none⟩) N dc)
        unfold setL at Y
        have bY := setL_below B3 (Nat.le_refl p) x (.slice (some ⟨ga, 0, none⟩) N da) (.slice (some ⟨gb, 0, none⟩) N db) (.slice (some ⟨gc, 0, none⟩) N dc)
        have hY := fun k (hk : k ≠ p) => setL_heap w3 p x (.slice (some ⟨ga, 0, none⟩) N da) (.slice (some ⟨gb, 0, none⟩) N db) (.slice (some ⟨gc, 0, none⟩) N dc) k hk
        have sY := setL_size w3 p x (.slice (some ⟨ga, 0, none⟩) N da) (.slice (some ⟨gb, 0, none⟩) N db) (.slice (some ⟨gc, 0, none⟩) N dc)
        unfold setL at bY hY sY
        generalize ((((((((w3.setCell ⟨p, 0, none⟩ (.int .i64 x.i)).setCell ⟨p, 1, none⟩ (.int .i64 x.s)).setCell ⟨p, 2, none⟩ (.int .i64 x.g)).setCell ⟨p, 3, none⟩ (.int .i64 x.k)).setCell ⟨p, 4, none⟩ (.int .i64 x.m)).setCell ⟨p, 5, none⟩ (.int .i64 x.b)).setCell ⟨p, 6, none⟩ (.slice (some ⟨ga, 0, none⟩) N da)).setCell ⟨p, 7, none⟩ (.slice (some ⟨gb, 0, none⟩) N db)).setCell ⟨p, 8, none⟩ (.slice (some ⟨gc, 0, none⟩) N dc) = w4 at *
        have o4 := o3.heap fun k hk _ => hY k (by omega)
        have z4 := z3.heap (hY (p + 1) (by omega)) (by omega)
        clear hY x3 o3 z3 B3
        have c2 := Y.a.c2
        have f2 := Y.f 2
        go_upto_region 6 with (fail)
        have Y5 := Y.num2 (x.g + 1)
        have hI0 : Hid (NIn w p p w2.heap.size { x with g := x.g + 1 } ga gb gc N da db dc us 0 (w4.setCell ⟨p, 2, none⟩ (.int .i64 (x.g + 1)))) := Lib.hid ⟨by rw [List.take_zero, mask_nil, mask_nil]; exact Y5, by rw [List.take_zero, mask_nil, mask_nil]; exact (o4.set (by omega)).ghost rfl rfl rfl, z4.far (by omega), bY.setCell (p := ⟨p, 2, none⟩) (Nat.le_refl p) _⟩
        generalize w4.setCell ⟨p, 2, none⟩ (.int .i64 (x.g + 1)) = wq at *
        obtain ⟨q, hq⟩ : ∃ q, p = q := ⟨_, rfl⟩
        have hB2 : p + 2 ≤ w2.heap.size := by omega
        have hqa : p ≠ ga := by omega
        have hqc : p ≠ gc := by omega
        clear Y Y5 bY o4 z4 c2 f2 hq q sY s3 hga' hgb' hgc'

        go_wp2_with (fail)
        go_loopw [7] (fun t wr => ∃ k : Nat, k ≤ us.length ∧ t = .int .i64 (k : Int) ∧ NIn w p p w2.heap.size { x with g := x.g + 1 } ga gb gc N da db dc us k wr) (fun t _ => us.length - (intOf t).toNat)
        case atStart => exact ⟨0, Nat.zero_le _, rfl, hI0.out⟩
        case round =>
          obtain ⟨k, hk, rfl, hI⟩ := hrel
          rename World => wr
          clear hI0
          by_cases hlt : k < us.length
          · have y2 : (k : Int) < (us.length : Int) := by omega
            have y3 : (k : Int) < (N : Int) := by have := hn0.out; have := q1.out; omega
            obtain ⟨cb, co, rfl, hcb, m0⟩ := hug'.out k hlt
            have m1 : wr.cell? ⟨cb, co + k, none⟩ = _ := (hI.b.cell (p := ⟨cb, co + k, none⟩) hcb).trans m0
            have hgk : us.getD k true = us[k] := by simp [List.getD_eq_getElem?_getD, hlt]
            generalize us[k] = u at *
            have st : ({ x with g := x.g + 1 } : Lbl).st.length = us.length := hn0.out.symm
            have cu : ({ x with g := x.g + 1 } : Lbl).cu.length = us.length := by have := hn0.out; have := q1.out; have := q3.out; show x.cu.length = _; omega
            cases u with
            | true =>
              have hJ := Lib.hid (hI.keep hlt hgk)
              clear hI m0 hgk
              go_wp2_with (fail)
              go_roundw
              case rel => exact ⟨k + 1, by omega, by go_num, hJ.out⟩
              case measure => simp [intOf]; omega
            | false =>
              have hJ := Lib.hid (hI.zero hlt st cu hgk hqa hqc (by omega) (by omega))
              have hmk1 := mask_len (us.take k) x.st
              have hmk2 := mask_len (us.take k) x.cu
              have c6 := hI.x.a.c6
              have c8 := hI.x.a.c8
              have ra := hI.o.a.cell (i := k) (by rw [List.length_map]; show k < (mask _ x.st).length; rw [hmk1]; exact st ▸ hlt)
              have rc := hI.o.c.cell (i := k) (by rw [List.length_map]; show k < (mask _ x.cu).length; rw [hmk2]; exact cu ▸ hlt)
              have fa := hI.o.a.frozen k
              have fc := hI.o.c.frozen k
              have hac : ga ≠ gc := fun e => hI.o.ac ga rfl (by rw [e]; rfl)
              have hgaw := (hI.o.a.lt).2
              have hgcw := (hI.o.c.lt).2
              generalize (List.map (Value.int IntKind.i64) _).getD k Value.nilFunc = va at ra
              generalize (List.map (Value.int IntKind.i64) _).getD k Value.nilFunc = vc at rc
              clear hI m0 hgk hmk1 hmk2 st cu
              go_wp2_with (fail)
              go_roundw
              case rel => exact ⟨k + 1, by omega, by go_num, hJ.out⟩
              case measure => simp [intOf]; omega
          · obtain rfl : k = us.length := by omega
            have y2 : ¬ ((us.length : Int) < (us.length : Int)) := by omega
            have hx := hI.x
            have ho := hI.o
            rw [List.take_of_length_le (Nat.le_refl _)] at hx ho
            have z9 := hI.z
            have B9 := hI.b
            change LblBox wr p (nexted x us) (.slice (some ⟨ga, 0, none⟩) N da) (.slice (some ⟨gb, 0, none⟩) N db) (.slice (some ⟨gc, 0, none⟩) N dc) at hx
            change O3 wr w2.heap.size (nexted x us) (.slice (some ⟨ga, 0, none⟩) N da) (.slice (some ⟨gb, 0, none⟩) N db) (.slice (some ⟨gc, 0, none⟩) N dc) at ho
            generalize nexted x us = y at *
            clear hI
            have ⟨e0, e1, e2, e3, e4, e5, e6, e7, e8, elt⟩ := hx.a
            have ⟨t0, t1, t2, t3, t4, t5, t6, t7, t8, tlt⟩ := z9.a
            have u0 := z9.f 0
            have u1 := z9.f 1
            have u2 := z9.f 2
            have u3 := z9.f 3
            have u4 := z9.f 4
            have u5 := z9.f 5
            have u6 := z9.f 6
            have u7 := z9.f 7
            have u8 := z9.f 8
            go_wp2_with (fail)
            refine bodyPost_ret (res_rnext (z9.put y (.slice (some ⟨ga, 0, none⟩) N da) (.slice (some ⟨gb, 0, none⟩) N db) (.slice (some ⟨gc, 0, none⟩) N dc)) rfl rfl) rfl ?_
            rw [hgl.out, hge.out]
            refine ⟨_, _, _, rfl, (ho.heap fun k hk _ => setL_heap _ _ _ _ _ _ _ (by omega)).mono (by omega), ?_⟩
            rw [hp]
            exact setL_below B9 (by omega) y (.slice (some ⟨ga, 0, none⟩) N da) (.slice (some ⟨gb, 0, none⟩) N db) (.slice (some ⟨gc, 0, none⟩) N dc)

end Go.Proofs.YtaopknddpagjeaaDoor
