/- label: labels compared; the document's own answers. -/
import Derived.Test.YtaopknddpagjeaaDoorLabWalk2
import Derived.Test.YtaopknddpagjeaaDoorShelf
namespace Go.Proofs.YtaopknddpagjeaaDoor
open Go.RowKit
set_option linter.unusedVariables false
set_option linter.unusedSimpArgs false
open Lb

theorem list_ext {l m : List Int} (h : l.length = m.length) (hg : ∀ j, j < l.length → l.getD j 0 = m.getD j 0) : l = m := by
  refine List.ext_getElem h fun i h1 h2 => ?_
  have := hg i h1
  rwa [getD_get h1, getD_get h2] at this
set_option maxRecDepth 100000 in
theorem eqS_any (v u : Value) (l m : List Int) (w : World) (hl : Reads w v (l.map (.int .i64))) (hm : Reads w u (m.map (.int .i64))) (h1 : l.length ≤ 140737488355328) (h2 : m.length ≤ 140737488355328) :
    Calls Tryd.prog 49 #[v, u] w (Tells w (.bool (decide (l = m)))) := by
  obtain ⟨a, cap, rfl, cl⟩ := hl.nums
  obtain ⟨b, cap', rfl, cm⟩ := hm.nums
  clear hl hm
  by_cases hlen : l.length = m.length
  · by_cases h0 : l.length = 0
    · have hq := Tryd.slices_Equal_int_empty a b cap m.length cap' w (by omega)
      rw [h0]
      have e : l = m := (List.eq_nil_of_length_eq_zero h0).trans (List.eq_nil_of_length_eq_zero (by omega)).symm
      refine hq.mono ?_
      rintro e' w' ⟨rfl, rfl⟩
      exact ⟨by rw [decide_eq_true e, decide_eq_true (by omega)], Below.refl _ _⟩
    · obtain ⟨cb, co, rfl, _, _⟩ := cl 0 (by omega)
      obtain ⟨db, do_, rfl, _, _⟩ := cm 0 (by omega)
      have hq := Tryd.slices_Equal_int cb co l.length cap db do_ m.length cap' l m w (Nat.le_refl _) (Nat.le_refl _) (by omega) (by omega)
        (fun j hj => by obtain ⟨_, _, e, _, h⟩ := cl j hj; simp at e; obtain ⟨rfl, rfl⟩ := e; exact h)
        (fun j hj => by obtain ⟨_, _, e, _, h⟩ := cm j hj; simp at e; obtain ⟨rfl, rfl⟩ := e; exact h)
      rw [List.take_length, List.take_length] at hq
      refine hq.mono ?_
      rintro e' w' ⟨rfl, q, rfl⟩
      exact ⟨by congr 2; rw [Bool.eq_iff_iff, beq_iff_eq, decide_eq_true_eq], belowN (Below.refl _ _) _⟩
  · have hz : Hid (decide (l = m) = false) := Lib.hid (decide_eq_false fun e => hlen (by rw [e]))
    have t1 : (((l.length : Nat) : Int) != ((m.length : Nat) : Int)) = true := by rw [bne_iff_ne]; omega
    have t2 : (l.length != m.length) = true := by rw [bne_iff_ne]; exact hlen
    clear hlen cl cm
    go_enter Tryd.func49, Tryd.ntmps49
    go_wp2
    go_ret
    exact ⟨by rw [hz.out]; rfl, Below.refl _ _⟩
set_option maxRecDepth 100000 in
set_option maxHeartbeats 4000000 in
theorem ints_any (v u : Value) (l m : List Int) (w : World) (hl : Reads w v (l.map (.int .i64))) (hm : Reads w u (m.map (.int .i64))) (h1 : l.length ≤ 140737488355328) :
    Calls Tryd.prog 50 #[v, u] w (Tells w (.bool (decide (l = m)))) := by
  obtain ⟨a, cap, rfl, cl⟩ := hl.nums
  obtain ⟨b, cap', rfl, cm⟩ := hm.nums
  clear hl hm
  by_cases hlen : l.length = m.length
  rotate_left
  · have hz : Hid (decide (l = m) = false) := Lib.hid (decide_eq_false fun e => hlen (by rw [e]))
    have t1 : (((l.length : Nat) : Int) != ((m.length : Nat) : Int)) = true := by rw [bne_iff_ne]; omega
    have t2 : (l.length != m.length) = true := by rw [bne_iff_ne]; exact hlen
    clear hlen cl cm
    go_enter Tryd.func50, Tryd.ntmps50
    go_wp2
    go_ret
    exact ⟨by rw [hz.out]; rfl, Below.refl _ _⟩
  have hlenH := Lib.hid hlen
  rw [← hlen] at cm
  rw [← hlen]
  clear hlen
  go_enter Tryd.func50, Tryd.ntmps50
  go_wp2
  go_loopw [5] (fun i wr => ∃ k : Nat, k ≤ l.length ∧ i = .int .i64 (k : Int) ∧ (∀ j, j < k → l.getD j 0 = m.getD j 0) ∧ Below w.heap.size w wr) (fun i _ => l.length - (intOf i).toNat)
  case atStart => exact ⟨0, by omega, rfl, (fun j hj => absurd hj (Nat.not_lt_zero _)), Below.refl _ _⟩
  case round =>
    obtain ⟨k, hk, rfl, hc, hB⟩ := hrel
    rename World => wr
    have hBs := hB.size
    by_cases hlt : k < l.length
    · have x1 : (k : Int) < (l.length : Int) := by omega
      obtain ⟨cb, co, rfl, hcb, hcl⟩ := cl k hlt
      obtain ⟨db, do_, rfl, hdb, hdl⟩ := cm k hlt
      have d0 : wr.cell? ⟨cb, co + k, none⟩ = _ := (hB.cell (p := ⟨cb, co + k, none⟩) hcb).trans hcl
      have d1 : wr.cell? ⟨db, do_ + k, none⟩ = _ := (hB.cell (p := ⟨db, do_ + k, none⟩) hdb).trans hdl
      have e0 : wr.drew.cell? ⟨cb, co + k, none⟩ = _ := (hB.cell (p := ⟨cb, co + k, none⟩) hcb).trans hcl
      have e1 : wr.drew.cell? ⟨db, do_ + k, none⟩ = _ := (hB.cell (p := ⟨db, do_ + k, none⟩) hdb).trans hdl
      by_cases hb : l.getD k 0 = m.getD k 0
      · have hzH : Hid (∀ j, j < k + 1 → l.getD j 0 = m.getD j 0) := Lib.hid fun j hj => by
          rcases Nat.lt_succ_iff_lt_or_eq.1 hj with h1 | rfl
          · exact hc j h1
          · exact hb
        have t : (l.getD k 0 != m.getD k 0) = false := by rw [hb]; simp
        clear hc hb hcl hdl
        generalize l.getD k 0 = x at *
        generalize m.getD k 0 = y at *
        go_wp2_with (fail)
        go_quiet (fail)
        have hB3 := below_c hB (drew_below wr nq)
        go_wp2_with (fail)
        go_roundw
        case rel => exact ⟨k + 1, by omega, by go_num, hzH.out, hB3⟩
        case measure => simp [intOf]; omega
      · have hz : Hid (decide (l = m) = false) := Lib.hid (decide_eq_false fun e => hb (by rw [e]))
        have t : (l.getD k 0 != m.getD k 0) = true := by rw [bne_iff_ne]; exact hb
        clear hc hb hcl hdl
        generalize l.getD k 0 = x at *
        generalize m.getD k 0 = y at *
        go_wp2_with (fail)
        go_quiet (fail)
        have hB3 := below_c hB (drew_below wr nq)
        go_wp2_with (fail)
        go_ret
        exact ⟨by rw [hz.out]; rfl, hB3⟩
    · have x1 : ¬ ((k : Int) < (l.length : Int)) := by omega
      obtain rfl : k = l.length := by omega
      have hz : Hid (decide (l = m) = true) := Lib.hid (decide_eq_true (list_ext hlenH.out hc))
      clear hc
      go_wp2_with (fail)
      go_ret
      exact ⟨by rw [hz.out]; rfl, hB⟩
theorem areB_no {l : List Int} {n lo hi : Int} (k : Nat) (hk : k < l.length) (h : ¬ (lo ≤ l.getD k 0 ∧ l.getD k 0 ≤ hi)) : areB l n lo hi = false := by
  cases e : areB l n lo hi with
  | false => rfl
  | true =>
    have := ((areB_iff _ _ _ _).1 e).2 (l.getD k 0) (by rw [getD_get hk]; exact List.getElem_mem hk)
    exact absurd this h
theorem areB_yes {l : List Int} {n lo hi : Int} (h0 : (l.length : Int) = n) (h : ∀ j, j < l.length → lo ≤ l.getD j 0 ∧ l.getD j 0 ≤ hi) : areB l n lo hi = true := by
  refine (areB_iff _ _ _ _).2 ⟨h0, fun x hx => ?_⟩
  obtain ⟨i, hi, rfl⟩ := List.getElem_of_mem hx
  rw [← getD_get hi]; exact h i hi
set_option maxRecDepth 100000 in
set_option maxHeartbeats 4000000 in
theorem numbers_any (v : Value) (l : List Int) (w : World) (hl : Reads w v (l.map (.int .i64))) (h1 : l.length ≤ 140737488355328) (n hi : Int) :
    Calls Tryd.prog 47 #[v, .int .i64 n, .int .i64 hi] w (Tells w (.bool (areB l n 0 hi))) := by
  obtain ⟨a, cap, rfl, cl⟩ := hl.nums
  clear hl
  by_cases hlen : (l.length : Int) = n
  rotate_left
  · have hz : Hid (areB l n 0 hi = false) := Lib.hid (by cases e : areB l n 0 hi with | false => rfl | true => exact absurd ((areB_iff _ _ _ _).1 e).1 hlen)
    have t1 : (((l.length : Nat) : Int) != n) = true := by rw [bne_iff_ne]; exact hlen
    clear hlen cl
    go_enter Tryd.func47, Tryd.ntmps47
    go_wp2
    go_ret
    exact ⟨by rw [hz.out]; rfl, Below.refl _ _⟩
  subst hlen
  go_enter Tryd.func47, Tryd.ntmps47
  go_wp2
  go_loopw [7] (fun i wr => ∃ k : Nat, k ≤ l.length ∧ i = .int .i64 (k : Int) ∧ (∀ j, j < k → 0 ≤ l.getD j 0 ∧ l.getD j 0 ≤ hi) ∧ Below w.heap.size w wr) (fun i _ => l.length - (intOf i).toNat)
  case atStart => exact ⟨0, by omega, rfl, (fun j hj => absurd hj (Nat.not_lt_zero _)), Below.refl _ _⟩
  case round =>
    obtain ⟨k, hk, rfl, hc, hB⟩ := hrel
    rename World => wr
    have hBs := hB.size
    by_cases hlt : k < l.length
    · have x1 : (k : Int) < (l.length : Int) := by omega
      obtain ⟨cb, co, rfl, hcb, hcl⟩ := cl k hlt
      have d0 : wr.cell? ⟨cb, co + k, none⟩ = _ := (hB.cell (p := ⟨cb, co + k, none⟩) hcb).trans hcl
      have hno : ¬ (0 ≤ l.getD k 0 ∧ l.getD k 0 ≤ hi) → Hid (areB l (l.length : Int) 0 hi = false) := fun h => Lib.hid (areB_no k hlt h)
      have hyes : (0 ≤ l.getD k 0 ∧ l.getD k 0 ≤ hi) → ∀ j, j < k + 1 → 0 ≤ l.getD j 0 ∧ l.getD j 0 ≤ hi := fun h j hj => by
        rcases Nat.lt_succ_iff_lt_or_eq.1 hj with h1 | rfl
        · exact hc j h1
        · exact h
      clear hc hcl
      generalize hx : l.getD k 0 = x at d0 hno hyes
      clear hx
      by_cases y1 : x < 0
      · have hz := hno (by omega)
        clear hno hyes
        go_wp2_with (fail)
        go_ret
        exact ⟨by rw [hz.out]; rfl, hB⟩
      by_cases y2 : x > hi
      · have hz := hno (by omega)
        clear hno hyes
        go_wp2_with (fail)
        go_ret
        exact ⟨by rw [hz.out]; rfl, hB⟩
      have hz := Lib.hid (hyes (by omega))
      clear hno hyes
      go_wp2_with (fail)
      go_roundw
      case rel => exact ⟨k + 1, by omega, by go_num, hz.out, hB⟩
      case measure => simp [intOf]; omega
    · have x1 : ¬ ((k : Int) < (l.length : Int)) := by omega
      obtain rfl : k = l.length := by omega
      have hz : Hid (areB l (l.length : Int) 0 hi = true) := Lib.hid (areB_yes rfl hc)
      clear hc
      go_wp2_with (fail)
      go_ret
      exact ⟨by rw [hz.out]; rfl, hB⟩
open Go.RowKit
set_option linter.unusedVariables false
set_option linter.unusedSimpArgs false
open Lb

theorem same_eq (x y : Lbl) : decide (x = y) = (x.i == y.i && (x.s == y.s && (x.g == y.g && ((x.k == y.k && x.m == y.m && x.b == y.b) && (decide (x.st = y.st) && (decide (x.bo = y.bo) && decide (x.cu = y.cu))))))) := by
  obtain ⟨_, _, _, _, _, _, _, _, _⟩ := x
  obtain ⟨_, _, _, _, _, _, _, _, _⟩ := y
  rw [Bool.eq_iff_iff]
  simp only [decide_eq_true_eq, Bool.and_eq_true, beq_iff_eq, Lbl.mk.injEq, and_assoc]
set_option maxRecDepth 100000 in
set_option maxHeartbeats 8000000 in
theorem lsame_any (x y : Lbl) (vs vb vc us ub uc : Value) (w : World) (hx : LR w x vs vb vc) (hy : LR w y us ub uc) :
    Calls Tryd.prog 17 #[x.v vs vb vc, y.v us ub uc] w (Tells w (.bool (decide (x = y)))) := by
  have hbb : Below w.heap.size w ((w.alloc (.cells #[.int .i64 x.i, .int .i64 x.s, .int .i64 x.g, .int .i64 x.k, .int .i64 x.m, .int .i64 x.b, vs, vb, vc] 26)).alloc (.cells #[.int .i64 y.i, .int .i64 y.s, .int .i64 y.g, .int .i64 y.k, .int .i64 y.m, .int .i64 y.b, us, ub, uc] 26)) := ((Below.refl _ _).alloc (Nat.le_refl _) _).alloc (by simp) _
  have hA := (LblAt.made w x vs vb vc 26).below (B := w.heap.size + 1) ((Below.refl _ _).alloc (by simp) (.cells #[.int .i64 y.i, .int .i64 y.s, .int .i64 y.g, .int .i64 y.k, .int .i64 y.m, .int .i64 y.b, us, ub, uc] 26)) (by omega)
  have hC := LblAt.made (w.alloc (.cells #[.int .i64 x.i, .int .i64 x.s, .int .i64 x.g, .int .i64 x.k, .int .i64 x.m, .int .i64 x.b, vs, vb, vc] 26)) y us ub uc 26
  rw [show (w.alloc (.cells #[.int .i64 x.i, .int .i64 x.s, .int .i64 x.g, .int .i64 x.k, .int .i64 x.m, .int .i64 x.b, vs, vb, vc] 26)).heap.size = w.heap.size + 1 by simp] at hC
  have c5 := fun W (hW : Below w.heap.size w W) => eqS_any vs us x.st y.st W (hx.s.below hW) (hy.s.below hW) hx.ls hy.ls
  have c6 := fun W (hW : Below w.heap.size w W) => eqS_any vb ub x.bo y.bo W (hx.b.below hW) (hy.b.below hW) hx.lb hy.lb
  have c7 := fun W (hW : Below w.heap.size w W) => eqS_any vc uc x.cu y.cu W (hx.c.below hW) (hy.c.below hW) hx.lc hy.lc
  have he := same_eq x y
  have hq := fun W => eql_geo W x.k x.m x.b y.k y.m y.b
  have hg := eql_geo_guard
  obtain ⟨b1, t1⟩ : ∃ b, (x.i == y.i) = b := ⟨_, rfl⟩
  obtain ⟨b2, t2⟩ : ∃ b, (x.s == y.s) = b := ⟨_, rfl⟩
  obtain ⟨b3, t3⟩ : ∃ b, (x.g == y.g) = b := ⟨_, rfl⟩
  rw [t1, t2, t3] at he
  unfold Lbl.v
  generalize (x.k == y.k && x.m == y.m && x.b == y.b) = b4 at *
  generalize decide (x.st = y.st) = b5 at *
  generalize decide (x.bo = y.bo) = b6 at *
  generalize decide (x.cu = y.cu) = b7 at *
  generalize decide (x = y) = R at *
  replace he := Lib.hid he
  clear hx hy
  generalize hwb : (w.alloc (.cells #[.int .i64 x.i, .int .i64 x.s, .int .i64 x.g, .int .i64 x.k, .int .i64 x.m, .int .i64 x.b, vs, vb, vc] 26)).alloc (.cells #[.int .i64 y.i, .int .i64 y.s, .int .i64 y.g, .int .i64 y.k, .int .i64 y.m, .int .i64 y.b, us, ub, uc] 26) = wb at *
  cases b1 with
  | false =>
    go_enter Tryd.func17, Tryd.ntmps17
    have ⟨e0, e1, e2, e3, e4, e5, e6, e7, e8, elt⟩ := hA
    have ⟨g0, g1, g2, g3, g4, g5, g6, g7, g8, glt⟩ := hC
    clear hA hC
    go_wp2
    go_ret
    exact ⟨by rw [he.out]; rfl, hbb⟩
  | true =>
    cases b2 with
    | false =>
      go_enter Tryd.func17, Tryd.ntmps17
      have ⟨e0, e1, e2, e3, e4, e5, e6, e7, e8, elt⟩ := hA
      have ⟨g0, g1, g2, g3, g4, g5, g6, g7, g8, glt⟩ := hC
      clear hA hC
      go_wp2
      go_ret
      exact ⟨by rw [he.out]; rfl, hbb⟩
    | true =>
      cases b3 with
      | false =>
        go_enter Tryd.func17, Tryd.ntmps17
        have ⟨e0, e1, e2, e3, e4, e5, e6, e7, e8, elt⟩ := hA
        have ⟨g0, g1, g2, g3, g4, g5, g6, g7, g8, glt⟩ := hC
        clear hA hC
        go_wp2
        go_ret
        exact ⟨by rw [he.out]; rfl, hbb⟩
      | true =>
        cases b4 with
        | false =>
          go_enter Tryd.func17, Tryd.ntmps17
          have ⟨e0, e1, e2, e3, e4, e5, e6, e7, e8, elt⟩ := hA
          have ⟨g0, g1, g2, g3, g4, g5, g6, g7, g8, glt⟩ := hC
          clear hA hC
          go_wp2
          go_ret
          exact ⟨by rw [he.out]; rfl, hbb⟩
        | true =>
          cases b5 with
          | false =>
            go_enter Tryd.func17, Tryd.ntmps17
            have ⟨e0, e1, e2, e3, e4, e5, e6, e7, e8, elt⟩ := hA
            have ⟨g0, g1, g2, g3, g4, g5, g6, g7, g8, glt⟩ := hC
            go_wp2_with (fail)
            refine (c5 _ hbb).mono ?_
            rintro e w2 ⟨rfl, b2⟩
            replace hA := hA.below b2 elt
            replace hC := hC.below b2 glt
            replace hbb := below_c hbb b2
            clear e0 e1 e2 e3 e4 e5 e6 e7 e8 g0 g1 g2 g3 g4 g5 g6 g7 g8 elt glt b2
            have ⟨e0, e1, e2, e3, e4, e5, e6, e7, e8, elt⟩ := hA
            have ⟨g0, g1, g2, g3, g4, g5, g6, g7, g8, glt⟩ := hC
            clear hwb
            clear hA hC
            go_wp2
            go_ret
            exact ⟨by rw [he.out]; rfl, hbb⟩
          | true =>
            cases b6 with
            | false =>
              go_enter Tryd.func17, Tryd.ntmps17
              have ⟨e0, e1, e2, e3, e4, e5, e6, e7, e8, elt⟩ := hA
              have ⟨g0, g1, g2, g3, g4, g5, g6, g7, g8, glt⟩ := hC
              go_wp2_with (fail)
              refine (c5 _ hbb).mono ?_
              rintro e w2 ⟨rfl, b2⟩
              replace hA := hA.below b2 elt
              replace hC := hC.below b2 glt
              replace hbb := below_c hbb b2
              clear e0 e1 e2 e3 e4 e5 e6 e7 e8 g0 g1 g2 g3 g4 g5 g6 g7 g8 elt glt b2
              have ⟨e0, e1, e2, e3, e4, e5, e6, e7, e8, elt⟩ := hA
              have ⟨g0, g1, g2, g3, g4, g5, g6, g7, g8, glt⟩ := hC
              clear hwb
              go_wp2_with (fail)
              refine (c6 _ hbb).mono ?_
              rintro e w2 ⟨rfl, b2⟩
              replace hA := hA.below b2 elt
              replace hC := hC.below b2 glt
              replace hbb := below_c hbb b2
              clear e0 e1 e2 e3 e4 e5 e6 e7 e8 g0 g1 g2 g3 g4 g5 g6 g7 g8 elt glt b2
              have ⟨e0, e1, e2, e3, e4, e5, e6, e7, e8, elt⟩ := hA
              have ⟨g0, g1, g2, g3, g4, g5, g6, g7, g8, glt⟩ := hC
              clear hA hC
              go_wp2
              go_ret
              exact ⟨by rw [he.out]; rfl, hbb⟩
            | true =>
              cases b7 with
              | false =>
                go_enter Tryd.func17, Tryd.ntmps17
                have ⟨e0, e1, e2, e3, e4, e5, e6, e7, e8, elt⟩ := hA
                have ⟨g0, g1, g2, g3, g4, g5, g6, g7, g8, glt⟩ := hC
                go_wp2_with (fail)
                refine (c5 _ hbb).mono ?_
                rintro e w2 ⟨rfl, b2⟩
                replace hA := hA.below b2 elt
                replace hC := hC.below b2 glt
                replace hbb := below_c hbb b2
                clear e0 e1 e2 e3 e4 e5 e6 e7 e8 g0 g1 g2 g3 g4 g5 g6 g7 g8 elt glt b2
                have ⟨e0, e1, e2, e3, e4, e5, e6, e7, e8, elt⟩ := hA
                have ⟨g0, g1, g2, g3, g4, g5, g6, g7, g8, glt⟩ := hC
                clear hwb
                go_wp2_with (fail)
                refine (c6 _ hbb).mono ?_
                rintro e w2 ⟨rfl, b2⟩
                replace hA := hA.below b2 elt
                replace hC := hC.below b2 glt
                replace hbb := below_c hbb b2
                clear e0 e1 e2 e3 e4 e5 e6 e7 e8 g0 g1 g2 g3 g4 g5 g6 g7 g8 elt glt b2
                have ⟨e0, e1, e2, e3, e4, e5, e6, e7, e8, elt⟩ := hA
                have ⟨g0, g1, g2, g3, g4, g5, g6, g7, g8, glt⟩ := hC
                go_wp2_with (fail)
                refine (c7 _ hbb).mono ?_
                rintro e w2 ⟨rfl, b2⟩
                replace hA := hA.below b2 elt
                replace hC := hC.below b2 glt
                replace hbb := below_c hbb b2
                clear e0 e1 e2 e3 e4 e5 e6 e7 e8 g0 g1 g2 g3 g4 g5 g6 g7 g8 elt glt b2
                have ⟨e0, e1, e2, e3, e4, e5, e6, e7, e8, elt⟩ := hA
                have ⟨g0, g1, g2, g3, g4, g5, g6, g7, g8, glt⟩ := hC
                clear hA hC
                go_wp2
                go_ret
                exact ⟨by rw [he.out]; rfl, hbb⟩
              | true =>
                go_enter Tryd.func17, Tryd.ntmps17
                have ⟨e0, e1, e2, e3, e4, e5, e6, e7, e8, elt⟩ := hA
                have ⟨g0, g1, g2, g3, g4, g5, g6, g7, g8, glt⟩ := hC
                go_wp2_with (fail)
                refine (c5 _ hbb).mono ?_
                rintro e w2 ⟨rfl, b2⟩
                replace hA := hA.below b2 elt
                replace hC := hC.below b2 glt
                replace hbb := below_c hbb b2
                clear e0 e1 e2 e3 e4 e5 e6 e7 e8 g0 g1 g2 g3 g4 g5 g6 g7 g8 elt glt b2
                have ⟨e0, e1, e2, e3, e4, e5, e6, e7, e8, elt⟩ := hA
                have ⟨g0, g1, g2, g3, g4, g5, g6, g7, g8, glt⟩ := hC
                clear hwb
                go_wp2_with (fail)
                refine (c6 _ hbb).mono ?_
                rintro e w2 ⟨rfl, b2⟩
                replace hA := hA.below b2 elt
                replace hC := hC.below b2 glt
                replace hbb := below_c hbb b2
                clear e0 e1 e2 e3 e4 e5 e6 e7 e8 g0 g1 g2 g3 g4 g5 g6 g7 g8 elt glt b2
                have ⟨e0, e1, e2, e3, e4, e5, e6, e7, e8, elt⟩ := hA
                have ⟨g0, g1, g2, g3, g4, g5, g6, g7, g8, glt⟩ := hC
                go_wp2_with (fail)
                refine (c7 _ hbb).mono ?_
                rintro e w2 ⟨rfl, b2⟩
                replace hA := hA.below b2 elt
                replace hC := hC.below b2 glt
                replace hbb := below_c hbb b2
                clear e0 e1 e2 e3 e4 e5 e6 e7 e8 g0 g1 g2 g3 g4 g5 g6 g7 g8 elt glt b2
                have ⟨e0, e1, e2, e3, e4, e5, e6, e7, e8, elt⟩ := hA
                have ⟨g0, g1, g2, g3, g4, g5, g6, g7, g8, glt⟩ := hC
                clear hA hC
                go_wp2
                go_ret
                exact ⟨by rw [he.out]; rfl, hbb⟩
set_option maxRecDepth 100000 in
set_option maxHeartbeats 8000000 in
theorem rsame_any (x y : Lbl) (vs vb vc us ub uc : Value) (w : World) (hx : LR w x vs vb vc) (hy : LR w y us ub uc) :
    Calls Tryd.prog 18 #[x.v vs vb vc, y.v us ub uc] w (Tells w (.bool (decide (x = y)))) := by
  have hbb : Below w.heap.size w ((w.alloc (.cells #[.int .i64 x.i, .int .i64 x.s, .int .i64 x.g, .int .i64 x.k, .int .i64 x.m, .int .i64 x.b, vs, vb, vc] 26)).alloc (.cells #[.int .i64 y.i, .int .i64 y.s, .int .i64 y.g, .int .i64 y.k, .int .i64 y.m, .int .i64 y.b, us, ub, uc] 26)) := ((Below.refl _ _).alloc (Nat.le_refl _) _).alloc (by simp) _
  have hA := (LblAt.made w x vs vb vc 26).below (B := w.heap.size + 1) ((Below.refl _ _).alloc (by simp) (.cells #[.int .i64 y.i, .int .i64 y.s, .int .i64 y.g, .int .i64 y.k, .int .i64 y.m, .int .i64 y.b, us, ub, uc] 26)) (by omega)
  have hC := LblAt.made (w.alloc (.cells #[.int .i64 x.i, .int .i64 x.s, .int .i64 x.g, .int .i64 x.k, .int .i64 x.m, .int .i64 x.b, vs, vb, vc] 26)) y us ub uc 26
  rw [show (w.alloc (.cells #[.int .i64 x.i, .int .i64 x.s, .int .i64 x.g, .int .i64 x.k, .int .i64 x.m, .int .i64 x.b, vs, vb, vc] 26)).heap.size = w.heap.size + 1 by simp] at hC
  have c5 := fun W (hW : Below w.heap.size w W) => ints_any vs us x.st y.st W (hx.s.below hW) (hy.s.below hW) hx.ls
  have c6 := fun W (hW : Below w.heap.size w W) => ints_any vb ub x.bo y.bo W (hx.b.below hW) (hy.b.below hW) hx.lb
  have c7 := fun W (hW : Below w.heap.size w W) => ints_any vc uc x.cu y.cu W (hx.c.below hW) (hy.c.below hW) hx.lc
  have he := same_eq x y
  have hq := fun W => eql_geo W x.k x.m x.b y.k y.m y.b
  have hg := eql_geo_guard
  obtain ⟨b1, t1⟩ : ∃ b, (x.i == y.i) = b := ⟨_, rfl⟩
  obtain ⟨b2, t2⟩ : ∃ b, (x.s == y.s) = b := ⟨_, rfl⟩
  obtain ⟨b3, t3⟩ : ∃ b, (x.g == y.g) = b := ⟨_, rfl⟩
  rw [t1, t2, t3] at he
  unfold Lbl.v
  generalize (x.k == y.k && x.m == y.m && x.b == y.b) = b4 at *
  generalize decide (x.st = y.st) = b5 at *
  generalize decide (x.bo = y.bo) = b6 at *
  generalize decide (x.cu = y.cu) = b7 at *
  generalize decide (x = y) = R at *
  replace he := Lib.hid he
  clear hx hy
  generalize hwb : (w.alloc (.cells #[.int .i64 x.i, .int .i64 x.s, .int .i64 x.g, .int .i64 x.k, .int .i64 x.m, .int .i64 x.b, vs, vb, vc] 26)).alloc (.cells #[.int .i64 y.i, .int .i64 y.s, .int .i64 y.g, .int .i64 y.k, .int .i64 y.m, .int .i64 y.b, us, ub, uc] 26) = wb at *
  cases b1 with
  | false =>
    go_enter Tryd.func18, Tryd.ntmps18
    have ⟨e0, e1, e2, e3, e4, e5, e6, e7, e8, elt⟩ := hA
    have ⟨g0, g1, g2, g3, g4, g5, g6, g7, g8, glt⟩ := hC
    go_wp2_with (fail)
    refine (c5 _ hbb).mono ?_
    rintro e w2 ⟨rfl, b2⟩
    replace hA := hA.below b2 elt
    replace hC := hC.below b2 glt
    replace hbb := below_c hbb b2
    clear e0 e1 e2 e3 e4 e5 e6 e7 e8 g0 g1 g2 g3 g4 g5 g6 g7 g8 elt glt b2
    have ⟨e0, e1, e2, e3, e4, e5, e6, e7, e8, elt⟩ := hA
    have ⟨g0, g1, g2, g3, g4, g5, g6, g7, g8, glt⟩ := hC
    clear hwb
    go_wp2_with (fail)
    refine (c6 _ hbb).mono ?_
    rintro e w2 ⟨rfl, b2⟩
    replace hA := hA.below b2 elt
    replace hC := hC.below b2 glt
    replace hbb := below_c hbb b2
    clear e0 e1 e2 e3 e4 e5 e6 e7 e8 g0 g1 g2 g3 g4 g5 g6 g7 g8 elt glt b2
    have ⟨e0, e1, e2, e3, e4, e5, e6, e7, e8, elt⟩ := hA
    have ⟨g0, g1, g2, g3, g4, g5, g6, g7, g8, glt⟩ := hC
    go_wp2_with (fail)
    refine (c7 _ hbb).mono ?_
    rintro e w2 ⟨rfl, b2⟩
    replace hA := hA.below b2 elt
    replace hC := hC.below b2 glt
    replace hbb := below_c hbb b2
    clear e0 e1 e2 e3 e4 e5 e6 e7 e8 g0 g1 g2 g3 g4 g5 g6 g7 g8 elt glt b2
    have ⟨e0, e1, e2, e3, e4, e5, e6, e7, e8, elt⟩ := hA
    have ⟨g0, g1, g2, g3, g4, g5, g6, g7, g8, glt⟩ := hC
    clear hA hC
    go_wp2
    go_ret
    exact ⟨by rw [he.out]; rfl, hbb⟩
  | true =>
    cases b2 with
    | false =>
      go_enter Tryd.func18, Tryd.ntmps18
      have ⟨e0, e1, e2, e3, e4, e5, e6, e7, e8, elt⟩ := hA
      have ⟨g0, g1, g2, g3, g4, g5, g6, g7, g8, glt⟩ := hC
      go_wp2_with (fail)
      refine (c5 _ hbb).mono ?_
      rintro e w2 ⟨rfl, b2⟩
      replace hA := hA.below b2 elt
      replace hC := hC.below b2 glt
      replace hbb := below_c hbb b2
      clear e0 e1 e2 e3 e4 e5 e6 e7 e8 g0 g1 g2 g3 g4 g5 g6 g7 g8 elt glt b2
      have ⟨e0, e1, e2, e3, e4, e5, e6, e7, e8, elt⟩ := hA
      have ⟨g0, g1, g2, g3, g4, g5, g6, g7, g8, glt⟩ := hC
      clear hwb
      go_wp2_with (fail)
      refine (c6 _ hbb).mono ?_
      rintro e w2 ⟨rfl, b2⟩
      replace hA := hA.below b2 elt
      replace hC := hC.below b2 glt
      replace hbb := below_c hbb b2
      clear e0 e1 e2 e3 e4 e5 e6 e7 e8 g0 g1 g2 g3 g4 g5 g6 g7 g8 elt glt b2
      have ⟨e0, e1, e2, e3, e4, e5, e6, e7, e8, elt⟩ := hA
      have ⟨g0, g1, g2, g3, g4, g5, g6, g7, g8, glt⟩ := hC
      go_wp2_with (fail)
      refine (c7 _ hbb).mono ?_
      rintro e w2 ⟨rfl, b2⟩
      replace hA := hA.below b2 elt
      replace hC := hC.below b2 glt
      replace hbb := below_c hbb b2
      clear e0 e1 e2 e3 e4 e5 e6 e7 e8 g0 g1 g2 g3 g4 g5 g6 g7 g8 elt glt b2
      have ⟨e0, e1, e2, e3, e4, e5, e6, e7, e8, elt⟩ := hA
      have ⟨g0, g1, g2, g3, g4, g5, g6, g7, g8, glt⟩ := hC
      clear hA hC
      go_wp2
      go_ret
      exact ⟨by rw [he.out]; rfl, hbb⟩
    | true =>
      cases b3 with
      | false =>
        go_enter Tryd.func18, Tryd.ntmps18
        have ⟨e0, e1, e2, e3, e4, e5, e6, e7, e8, elt⟩ := hA
        have ⟨g0, g1, g2, g3, g4, g5, g6, g7, g8, glt⟩ := hC
        go_wp2_with (fail)
        refine (c5 _ hbb).mono ?_
        rintro e w2 ⟨rfl, b2⟩
        replace hA := hA.below b2 elt
        replace hC := hC.below b2 glt
        replace hbb := below_c hbb b2
        clear e0 e1 e2 e3 e4 e5 e6 e7 e8 g0 g1 g2 g3 g4 g5 g6 g7 g8 elt glt b2
        have ⟨e0, e1, e2, e3, e4, e5, e6, e7, e8, elt⟩ := hA
        have ⟨g0, g1, g2, g3, g4, g5, g6, g7, g8, glt⟩ := hC
        clear hwb
        go_wp2_with (fail)
        refine (c6 _ hbb).mono ?_
        rintro e w2 ⟨rfl, b2⟩
        replace hA := hA.below b2 elt
        replace hC := hC.below b2 glt
        replace hbb := below_c hbb b2
        clear e0 e1 e2 e3 e4 e5 e6 e7 e8 g0 g1 g2 g3 g4 g5 g6 g7 g8 elt glt b2
        have ⟨e0, e1, e2, e3, e4, e5, e6, e7, e8, elt⟩ := hA
        have ⟨g0, g1, g2, g3, g4, g5, g6, g7, g8, glt⟩ := hC
        go_wp2_with (fail)
        refine (c7 _ hbb).mono ?_
        rintro e w2 ⟨rfl, b2⟩
        replace hA := hA.below b2 elt
        replace hC := hC.below b2 glt
        replace hbb := below_c hbb b2
        clear e0 e1 e2 e3 e4 e5 e6 e7 e8 g0 g1 g2 g3 g4 g5 g6 g7 g8 elt glt b2
        have ⟨e0, e1, e2, e3, e4, e5, e6, e7, e8, elt⟩ := hA
        have ⟨g0, g1, g2, g3, g4, g5, g6, g7, g8, glt⟩ := hC
        clear hA hC
        go_wp2
        go_ret
        exact ⟨by rw [he.out]; rfl, hbb⟩
      | true =>
        cases b4 with
        | false =>
          go_enter Tryd.func18, Tryd.ntmps18
          have ⟨e0, e1, e2, e3, e4, e5, e6, e7, e8, elt⟩ := hA
          have ⟨g0, g1, g2, g3, g4, g5, g6, g7, g8, glt⟩ := hC
          go_wp2_with (fail)
          refine (c5 _ hbb).mono ?_
          rintro e w2 ⟨rfl, b2⟩
          replace hA := hA.below b2 elt
          replace hC := hC.below b2 glt
          replace hbb := below_c hbb b2
          clear e0 e1 e2 e3 e4 e5 e6 e7 e8 g0 g1 g2 g3 g4 g5 g6 g7 g8 elt glt b2
          have ⟨e0, e1, e2, e3, e4, e5, e6, e7, e8, elt⟩ := hA
          have ⟨g0, g1, g2, g3, g4, g5, g6, g7, g8, glt⟩ := hC
          clear hwb
          go_wp2_with (fail)
          refine (c6 _ hbb).mono ?_
          rintro e w2 ⟨rfl, b2⟩
          replace hA := hA.below b2 elt
          replace hC := hC.below b2 glt
          replace hbb := below_c hbb b2
          clear e0 e1 e2 e3 e4 e5 e6 e7 e8 g0 g1 g2 g3 g4 g5 g6 g7 g8 elt glt b2
          have ⟨e0, e1, e2, e3, e4, e5, e6, e7, e8, elt⟩ := hA
          have ⟨g0, g1, g2, g3, g4, g5, g6, g7, g8, glt⟩ := hC
          go_wp2_with (fail)
          refine (c7 _ hbb).mono ?_
          rintro e w2 ⟨rfl, b2⟩
          replace hA := hA.below b2 elt
          replace hC := hC.below b2 glt
          replace hbb := below_c hbb b2
          clear e0 e1 e2 e3 e4 e5 e6 e7 e8 g0 g1 g2 g3 g4 g5 g6 g7 g8 elt glt b2
          have ⟨e0, e1, e2, e3, e4, e5, e6, e7, e8, elt⟩ := hA
          have ⟨g0, g1, g2, g3, g4, g5, g6, g7, g8, glt⟩ := hC
          clear hA hC
          go_wp2
          go_ret
          exact ⟨by rw [he.out]; rfl, hbb⟩
        | true =>
          cases b5 with
          | false =>
            go_enter Tryd.func18, Tryd.ntmps18
            have ⟨e0, e1, e2, e3, e4, e5, e6, e7, e8, elt⟩ := hA
            have ⟨g0, g1, g2, g3, g4, g5, g6, g7, g8, glt⟩ := hC
            go_wp2_with (fail)
            refine (c5 _ hbb).mono ?_
            rintro e w2 ⟨rfl, b2⟩
            replace hA := hA.below b2 elt
            replace hC := hC.below b2 glt
            replace hbb := below_c hbb b2
            clear e0 e1 e2 e3 e4 e5 e6 e7 e8 g0 g1 g2 g3 g4 g5 g6 g7 g8 elt glt b2
            have ⟨e0, e1, e2, e3, e4, e5, e6, e7, e8, elt⟩ := hA
            have ⟨g0, g1, g2, g3, g4, g5, g6, g7, g8, glt⟩ := hC
            clear hwb
            go_wp2_with (fail)
            refine (c6 _ hbb).mono ?_
            rintro e w2 ⟨rfl, b2⟩
            replace hA := hA.below b2 elt
            replace hC := hC.below b2 glt
            replace hbb := below_c hbb b2
            clear e0 e1 e2 e3 e4 e5 e6 e7 e8 g0 g1 g2 g3 g4 g5 g6 g7 g8 elt glt b2
            have ⟨e0, e1, e2, e3, e4, e5, e6, e7, e8, elt⟩ := hA
            have ⟨g0, g1, g2, g3, g4, g5, g6, g7, g8, glt⟩ := hC
            go_wp2_with (fail)
            refine (c7 _ hbb).mono ?_
            rintro e w2 ⟨rfl, b2⟩
            replace hA := hA.below b2 elt
            replace hC := hC.below b2 glt
            replace hbb := below_c hbb b2
            clear e0 e1 e2 e3 e4 e5 e6 e7 e8 g0 g1 g2 g3 g4 g5 g6 g7 g8 elt glt b2
            have ⟨e0, e1, e2, e3, e4, e5, e6, e7, e8, elt⟩ := hA
            have ⟨g0, g1, g2, g3, g4, g5, g6, g7, g8, glt⟩ := hC
            clear hA hC
            go_wp2
            go_ret
            exact ⟨by rw [he.out]; rfl, hbb⟩
          | true =>
            cases b6 with
            | false =>
              go_enter Tryd.func18, Tryd.ntmps18
              have ⟨e0, e1, e2, e3, e4, e5, e6, e7, e8, elt⟩ := hA
              have ⟨g0, g1, g2, g3, g4, g5, g6, g7, g8, glt⟩ := hC
              go_wp2_with (fail)
              refine (c5 _ hbb).mono ?_
              rintro e w2 ⟨rfl, b2⟩
              replace hA := hA.below b2 elt
              replace hC := hC.below b2 glt
              replace hbb := below_c hbb b2
              clear e0 e1 e2 e3 e4 e5 e6 e7 e8 g0 g1 g2 g3 g4 g5 g6 g7 g8 elt glt b2
              have ⟨e0, e1, e2, e3, e4, e5, e6, e7, e8, elt⟩ := hA
              have ⟨g0, g1, g2, g3, g4, g5, g6, g7, g8, glt⟩ := hC
              clear hwb
              go_wp2_with (fail)
              refine (c6 _ hbb).mono ?_
              rintro e w2 ⟨rfl, b2⟩
              replace hA := hA.below b2 elt
              replace hC := hC.below b2 glt
              replace hbb := below_c hbb b2
              clear e0 e1 e2 e3 e4 e5 e6 e7 e8 g0 g1 g2 g3 g4 g5 g6 g7 g8 elt glt b2
              have ⟨e0, e1, e2, e3, e4, e5, e6, e7, e8, elt⟩ := hA
              have ⟨g0, g1, g2, g3, g4, g5, g6, g7, g8, glt⟩ := hC
              go_wp2_with (fail)
              refine (c7 _ hbb).mono ?_
              rintro e w2 ⟨rfl, b2⟩
              replace hA := hA.below b2 elt
              replace hC := hC.below b2 glt
              replace hbb := below_c hbb b2
              clear e0 e1 e2 e3 e4 e5 e6 e7 e8 g0 g1 g2 g3 g4 g5 g6 g7 g8 elt glt b2
              have ⟨e0, e1, e2, e3, e4, e5, e6, e7, e8, elt⟩ := hA
              have ⟨g0, g1, g2, g3, g4, g5, g6, g7, g8, glt⟩ := hC
              clear hA hC
              go_wp2
              go_ret
              exact ⟨by rw [he.out]; rfl, hbb⟩
            | true =>
              cases b7 with
              | false =>
                go_enter Tryd.func18, Tryd.ntmps18
                have ⟨e0, e1, e2, e3, e4, e5, e6, e7, e8, elt⟩ := hA
                have ⟨g0, g1, g2, g3, g4, g5, g6, g7, g8, glt⟩ := hC
                go_wp2_with (fail)
                refine (c5 _ hbb).mono ?_
                rintro e w2 ⟨rfl, b2⟩
                replace hA := hA.below b2 elt
                replace hC := hC.below b2 glt
                replace hbb := below_c hbb b2
                clear e0 e1 e2 e3 e4 e5 e6 e7 e8 g0 g1 g2 g3 g4 g5 g6 g7 g8 elt glt b2
                have ⟨e0, e1, e2, e3, e4, e5, e6, e7, e8, elt⟩ := hA
                have ⟨g0, g1, g2, g3, g4, g5, g6, g7, g8, glt⟩ := hC
                clear hwb
                go_wp2_with (fail)
                refine (c6 _ hbb).mono ?_
                rintro e w2 ⟨rfl, b2⟩
                replace hA := hA.below b2 elt
                replace hC := hC.below b2 glt
                replace hbb := below_c hbb b2
                clear e0 e1 e2 e3 e4 e5 e6 e7 e8 g0 g1 g2 g3 g4 g5 g6 g7 g8 elt glt b2
                have ⟨e0, e1, e2, e3, e4, e5, e6, e7, e8, elt⟩ := hA
                have ⟨g0, g1, g2, g3, g4, g5, g6, g7, g8, glt⟩ := hC
                go_wp2_with (fail)
                refine (c7 _ hbb).mono ?_
                rintro e w2 ⟨rfl, b2⟩
                replace hA := hA.below b2 elt
                replace hC := hC.below b2 glt
                replace hbb := below_c hbb b2
                clear e0 e1 e2 e3 e4 e5 e6 e7 e8 g0 g1 g2 g3 g4 g5 g6 g7 g8 elt glt b2
                have ⟨e0, e1, e2, e3, e4, e5, e6, e7, e8, elt⟩ := hA
                have ⟨g0, g1, g2, g3, g4, g5, g6, g7, g8, glt⟩ := hC
                clear hA hC
                go_wp2
                go_ret
                exact ⟨by rw [he.out]; rfl, hbb⟩
              | true =>
                go_enter Tryd.func18, Tryd.ntmps18
                have ⟨e0, e1, e2, e3, e4, e5, e6, e7, e8, elt⟩ := hA
                have ⟨g0, g1, g2, g3, g4, g5, g6, g7, g8, glt⟩ := hC
                go_wp2_with (fail)
                refine (c5 _ hbb).mono ?_
                rintro e w2 ⟨rfl, b2⟩
                replace hA := hA.below b2 elt
                replace hC := hC.below b2 glt
                replace hbb := below_c hbb b2
                clear e0 e1 e2 e3 e4 e5 e6 e7 e8 g0 g1 g2 g3 g4 g5 g6 g7 g8 elt glt b2
                have ⟨e0, e1, e2, e3, e4, e5, e6, e7, e8, elt⟩ := hA
                have ⟨g0, g1, g2, g3, g4, g5, g6, g7, g8, glt⟩ := hC
                clear hwb
                go_wp2_with (fail)
                refine (c6 _ hbb).mono ?_
                rintro e w2 ⟨rfl, b2⟩
                replace hA := hA.below b2 elt
                replace hC := hC.below b2 glt
                replace hbb := below_c hbb b2
                clear e0 e1 e2 e3 e4 e5 e6 e7 e8 g0 g1 g2 g3 g4 g5 g6 g7 g8 elt glt b2
                have ⟨e0, e1, e2, e3, e4, e5, e6, e7, e8, elt⟩ := hA
                have ⟨g0, g1, g2, g3, g4, g5, g6, g7, g8, glt⟩ := hC
                go_wp2_with (fail)
                refine (c7 _ hbb).mono ?_
                rintro e w2 ⟨rfl, b2⟩
                replace hA := hA.below b2 elt
                replace hC := hC.below b2 glt
                replace hbb := below_c hbb b2
                clear e0 e1 e2 e3 e4 e5 e6 e7 e8 g0 g1 g2 g3 g4 g5 g6 g7 g8 elt glt b2
                have ⟨e0, e1, e2, e3, e4, e5, e6, e7, e8, elt⟩ := hA
                have ⟨g0, g1, g2, g3, g4, g5, g6, g7, g8, glt⟩ := hC
                clear hA hC
                go_wp2
                go_ret
                exact ⟨by rw [he.out]; rfl, hbb⟩
end Go.Proofs.YtaopknddpagjeaaDoor
