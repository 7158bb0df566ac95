/- record: what the head of a record says. -/
import Derived.Test.YtdbjfofnkijmoaaDoorRecBase
import Derived.Lib.Strings
import Derived.BigQuiet
import Derived.Deep.Cut
import Derived.Deep.QuietTactic
namespace Go.Proofs.YtdbjfofnkijmoaaDoor
section
open Go.RowKit
set_option linter.unusedVariables false
set_option linter.unusedSimpArgs false

open Rc
theorem ne_toList {a b : ByteArray} (h : ¬ a = b) : (!a.toList == b.toList) = true := by
  rw [Bool.not_eq_true', beq_eq_false_iff_ne]
  intro e
  exact h (by rw [Lib.toList_data, Lib.toList_data] at e; exact Go.WideShapes.bytes_inj e)
theorem list_ext' {α : Type} {a b : List α} (h : a.length = b.length) (hj : ∀ j, j < a.length → a[j]? = b[j]?) : a = b := by
  refine List.ext_getElem? fun i => ?_
  rcases Nat.lt_or_ge i a.length with h1 | h1
  · exact hj i h1
  · rw [List.getElem?_eq_none h1, List.getElem?_eq_none (by omega)]
set_option maxRecDepth 100000 in
set_option maxHeartbeats 4000000 in
theorem rtexts_any (va vb : Value) (a b : List ByteArray) (w : World) (hA : Reads w va (a.map .string)) (hB : Reads w vb (b.map .string)) (hn : a.length ≤ 140737488355328) :
    Calls Tryd.prog 39 #[va, vb] w (Tells w (.bool (decide (a = b)))) := by
  obtain ⟨a0, ca, rfl, ga⟩ := hA.items
  obtain ⟨b0, cb, rfl, gb⟩ := hB.items
  clear hA hB
  by_cases h1 : a.length = b.length
  · have h1' := Lib.hid h1
    have t1 : (((a.length : Nat) : Int) != ((b.length : Nat) : Int)) = false := by rw [h1]; exact bne_self_eq_false _
    have t1' : (((a.length : Nat) : Int) == ((b.length : Nat) : Int)) = true := by rw [h1]; exact beq_self_eq_true _
    clear h1
    go_enter Tryd.func39, Tryd.ntmps39
    go_wp2_with (fail)
    clear t1 t1'
    go_loopw [5] (fun i wr => ∃ k : Nat, k ≤ a.length ∧ i = .int .i64 (k : Int) ∧ Below w.heap.size w wr ∧ Hid (∀ j, j < k → a[j]? = b[j]?)) (fun i _ => a.length - (intOf i).toNat)
    case atStart => exact ⟨0, Nat.zero_le _, rfl, Below.refl _ _, Lib.hid fun j hj => absurd hj (Nat.not_lt_zero _)⟩
    case round =>
      obtain ⟨k, hk, rfl, hB, hj⟩ := hrel
      rename World => wr
      by_cases hlt : k < a.length
      · have hltb : k < b.length := by rw [← h1'.out]; exact hlt
        have y1 : (k : Int) < (a.length : Int) := by omega
        have y2 : (k : Int) < (b.length : Int) := by omega
        obtain ⟨p1, o1, rfl, l1, c1⟩ := ga k hlt
        obtain ⟨p2, o2, rfl, l2, c2⟩ := gb k hltb
        have d1 := (hB.cell (p := ⟨p1, o1 + k, none⟩) l1).trans c1
        have d2 := (hB.cell (p := ⟨p2, o2 + k, none⟩) l2).trans c2
        have e1 : a[k]? = some a[k] := List.getElem?_eq_getElem hlt
        have e2 : b[k]? = some b[k] := List.getElem?_eq_getElem hltb
        clear c1 c2
        by_cases he : a[k] = b[k]
        · have hj' : Hid (∀ j, j < k + 1 → a[j]? = b[j]?) := Lib.hid fun j hjk => by
            by_cases e : j = k
            · subst e; rw [e1, e2, he]
            · exact hj.out j (by omega)
          rw [← he] at d2
          generalize a[k] = rk at *
          clear he e1 e2 hj
          go_wp2_with (fail)
          go_quiet (fail)
          have hB3 := below_c hB (drew_below wr nq)
          go_wp2_with (fail)
          go_roundw
          case rel => exact ⟨k + 1, by omega, by go_num, hB3, hj'⟩
          case measure => simp [intOf]; omega
        · have hz : Hid (decide (a = b) = false) := Lib.hid (by
            rw [decide_eq_false_iff_not]
            intro e; subst e; exact he rfl)
          generalize a[k] = rk at *
          generalize b[k] = qk at *
          have tq : (!rk.toList == qk.toList) = true := ne_toList he
          clear e1 e2 hj he
          go_wp2_with (fail)
          go_quiet (fail)
          have hB3 := below_c hB (drew_below wr nq)
          go_wp2_with (fail)
          go_ret
          exact ⟨by rw [hz.out]; rfl, hB3⟩
      · have hz : Hid (decide (a = b) = true) := Lib.hid (decide_eq_true (list_ext' h1'.out fun j hj' => hj.out j (by omega)))
        have y1 : ¬ ((k : Int) < (a.length : Int)) := by omega
        go_wp2_with (fail)
        go_ret
        exact ⟨by rw [hz.out]; rfl, hB⟩
  · have hz : Hid (decide (a = b) = false) := Lib.hid (by rw [decide_eq_false_iff_not]; intro e; exact h1 (by rw [e]))
    have t1 : (((a.length : Nat) : Int) == ((b.length : Nat) : Int)) = false := by rw [beq_eq_false_iff_ne]; omega
    go_enter Tryd.func39, Tryd.ntmps39
    go_wp2_with (fail)
    go_ret
    exact ⟨by rw [hz.out]; rfl, Below.refl _ _⟩
theorem two_boxes (w : World) (c d : Array Value) (S T : TypeId) : ∀ W, W = (w.alloc (.cells c S)).alloc (.cells d T) →
    (∀ j, W.cell? ⟨w.heap.size, j, none⟩ = c[j]?) ∧ (∀ j, W.cell? ⟨w.heap.size + 1, j, none⟩ = d[j]?) ∧ Below w.heap.size w W ∧ w.heap.size + 1 < W.heap.size := by
  rintro W rfl
  have e : (w.alloc (.cells c S)).heap.size = w.heap.size + 1 := by simp
  refine ⟨fun j => ?_, fun j => ?_, ((Below.refl _ _).alloc (Nat.le_refl _) _).alloc (by simp) _, by simp⟩
  · rw [World.cell?_alloc_old _ _ _ (by rw [e]; show w.heap.size ≠ _; omega), World.cell?_alloc_mark]
  · have := World.cell?_alloc_mark (w.alloc (.cells c S)) d T (0, 0) j
    rw [e] at this; exact this
set_option maxRecDepth 100000 in
set_option maxHeartbeats 4000000 in
theorem rsame11_any (q p : Int) (va vb : Value) (l m : List St) (w : World) (hl : SReads w va l) (hm : SReads w vb m) (hn : l.length ≤ 140737488355328) :
    Calls Tryd.prog 20 #[.agg #[.int .i64 q, va], .agg #[.int .i64 p, vb]] w (Tells w (.bool (sameB q l p m))) := by
  obtain ⟨ha, hb, hB0, hs⟩ := two_boxes w #[.int .i64 q, va] #[.int .i64 p, vb] 26 26 _ rfl
  have hl1 := hl.below hB0
  have hm1 := hm.below hB0
  obtain ⟨x, xc, rfl, gl⟩ := hl1
  obtain ⟨y, yc, rfl, gm⟩ := hm1
  have a0 := ha 0
  have a1 := ha 1
  have b0 := hb 0
  have b1 := hb 1
  clear hl hm ha hb
  simp only [List.getElem?_toArray, List.getElem?_cons_zero, List.getElem?_cons_succ] at a0 a1 b0 b1
  go_enter Tryd.func20, Tryd.ntmps20
  go_upto_region 1 with (fail)
  generalize (w.alloc (.cells #[.int .i64 q, .slice x l.length xc] 26)).alloc (.cells #[.int .i64 p, .slice y m.length yc] 26) = w0 at *
  obtain ⟨g, hg⟩ : ∃ g, w.heap.size = g := ⟨_, rfl⟩
  rw [hg] at a0 a1 b0 b1 hs ⊢
  replace hg := Lib.hid hg
  by_cases h1 : q = p
  · subst h1
    have t0 : (q != q) = false := bne_self_eq_false _
    have t0' : (q == q) = true := beq_self_eq_true _
    by_cases h2 : l.length = m.length
    · have t1 : (((l.length : Nat) : Int) == ((m.length : Nat) : Int)) = true := by rw [h2]; exact beq_self_eq_true _
      have h2' := Lib.hid h2
      clear h2
      go_wp2_with (fail)
      clear t0 t0' t1 a0 b0
      go_loopw [5] (fun i wr => ∃ k : Nat, k ≤ l.length ∧ i = .int .i64 (k : Int) ∧ Below w0.heap.size w0 wr ∧ Hid (∀ j, j < k → (l.map (fun s => (s.n, s.d)))[j]? = (m.map (fun s => (s.n, s.d)))[j]?)) (fun i _ => l.length - (intOf i).toNat)
      case atStart => exact ⟨0, Nat.zero_le _, rfl, Below.refl _ _, Lib.hid fun j hj => absurd hj (Nat.not_lt_zero _)⟩
      case round =>
        obtain ⟨k, hk, rfl, hB, hj⟩ := hrel
        rename World => wr
        have c1 := (hB.cell (p := ⟨g, 1, none⟩) (by show g < w0.heap.size; omega)).trans a1
        have c2 := (hB.cell (p := ⟨g + 1, 1, none⟩) hs).trans b1
        by_cases hlt : k < l.length
        · have hltm : k < m.length := by rw [← h2'.out]; exact hlt
          have y1 : (k : Int) < (l.length : Int) := by omega
          have y2 : (k : Int) < (m.length : Int) := by omega
          obtain ⟨p1, o1, rfl, A1, K1⟩ := gl k hlt
          obtain ⟨p2, o2, rfl, A2, K2⟩ := gm k hltm
          have L1 := A1.below hB A1.lt
          have L2 := A2.below hB A2.lt
          have e1 : (l.map (fun s => (s.n, s.d)))[k]? = some (l[k].n, l[k].d) := by simp [hlt]
          have e2 : (m.map (fun s => (s.n, s.d)))[k]? = some (m[k].n, m[k].d) := by simp [hltm]
          replace K1 := K1.below hB
          replace K2 := K2.below hB
          clear A1 A2
          generalize l[k] = s1 at *
          generalize m[k] = s2 at *
          obtain ⟨n1, d1, v1⟩ := s1
          obtain ⟨n2, d2, v2⟩ := s2
          have ⟨f0, f1, fl⟩ := L1
          have ⟨g0, g1, gl'⟩ := L2
          simp only at f0 f1 g0 g1 e1 e2
          have cT := fun W h1 h2 => rtexts_any v1 v2 d1 d2 W h1 h2 K1.n
          obtain ⟨bd, hbd⟩ : ∃ b, decide (d1 = d2) = b := ⟨_, rfl⟩
          rw [hbd] at cT
          go_wp2_with (fail)
          have hc1 : g < wr.heap.size := by have := hB.size; omega
          have hc2 : g + 1 < wr.heap.size := by have := hB.size; omega
          refine wp_region_cls (Below wr.heap.size wr) (by kernel_rfl) (by kernel_rfl) (Below.refl _ _).drew ?_
          intro Z f hne hD hE
          have r0 : ∀ zz, (f zz).cell? ⟨g, 1, none⟩ = some (.slice (some ⟨p1, o1, none⟩) l.length xc) := fun zz => (clsCell hD zz _ _ hc1).trans c1
          have r1 : ∀ zz, (f zz).cell? ⟨g + 1, 1, none⟩ = some (.slice (some ⟨p2, o2, none⟩) m.length yc) := fun zz => (clsCell hD zz _ _ hc2).trans c2
          have r2 : ∀ zz, (f zz).cell? ⟨p1, o1 + k * 2 + 1, none⟩ = some v1 := fun zz => (clsCell hD zz _ _ fl).trans f1
          have r3 : ∀ zz, (f zz).cell? ⟨p2, o2 + k * 2 + 1, none⟩ = some v2 := fun zz => (clsCell hD zz _ _ gl').trans g1
          repeat (go_big_quiet_step (first | (go_at_call 39; with_reducible exact toQB hD hE _ (cT _ (K1.r.below (hD _)) (K2.r.below (hD _))))))
          refine wpQuiet_nil ?_
          intro _ hw'
          obtain ⟨zq, hw''⟩ := hw'
          subst hw''
          have B2 := below_c hB (hD zq)
          have c1' := r0 zq
          have c2' := r1 zq
          have f0' := (clsCell hD zq _ _ fl).trans f0
          have g0' := (clsCell hD zq _ _ gl').trans g0
          have fl' := Nat.lt_of_lt_of_le fl (hD zq).size
          have gl2 := Nat.lt_of_lt_of_le gl' (hD zq).size
          clear hE r0 r1 r2 r3 cT K1 K2 L1 L2 f0 f1 g0 g1 c1 c2 fl gl' hD a1 b1
          generalize f zq = w7 at *
          cases bd with
          | false =>
            have hz : Hid (sameB q l q m = false) := Lib.hid (by
              unfold sameB
              rw [Bool.and_eq_false_iff]; right
              rw [decide_eq_false_iff_not]; intro e
              rw [e, e2] at e1
              simp only [Option.some.injEq, Prod.mk.injEq] at e1
              exact of_decide_eq_false hbd e1.2.symm)
            go_wp2_with (fail)
            go_quiet (fail)
            have hB3 := below_c B2 (drew_below w7 nq)
            go_wp2_with (fail)
            go_ret
            exact ⟨by rw [hz.out]; rfl, below_c hB0 hB3⟩
          | true =>
            by_cases hnn : n1 = n2
            · have hj' : Hid (∀ j, j < k + 1 → (l.map (fun s => (s.n, s.d)))[j]? = (m.map (fun s => (s.n, s.d)))[j]?) := Lib.hid fun j hjk => by
                by_cases e : j = k
                · subst e; rw [e1, e2, hnn, of_decide_eq_true hbd]
                · exact hj.out j (by omega)
              subst hnn
              have tn : (n1 != n1) = false := bne_self_eq_false _
              have tn' : (n1 == n1) = true := beq_self_eq_true _
              clear hj e1 e2 hbd
              go_wp2_with (fail)
              go_quiet (fail)
              have hB3 := below_c B2 (drew_below w7 nq)
              go_wp2_with (fail)
              go_roundw
              case rel => exact ⟨k + 1, by omega, by go_num, hB3, hj'⟩
              case measure => simp [intOf]; omega
            · have tn : (n1 == n2) = false := beq_eq_false_iff_ne.2 hnn
              have hz : Hid (sameB q l q m = false) := Lib.hid (by
                unfold sameB
                rw [Bool.and_eq_false_iff]; right
                rw [decide_eq_false_iff_not]; intro e
                rw [e, e2] at e1
                simp only [Option.some.injEq, Prod.mk.injEq] at e1
                exact hnn e1.1.symm)
              clear hj e1 e2 hbd
              go_wp2_with (fail)
              go_quiet (fail)
              have hB3 := below_c B2 (drew_below w7 nq)
              go_wp2_with (fail)
              go_ret
              exact ⟨by rw [hz.out]; rfl, below_c hB0 hB3⟩
        · have hz : Hid (sameB q l q m = true) := Lib.hid (by
            unfold sameB
            rw [Bool.and_eq_true]
            exact ⟨beq_self_eq_true _, decide_eq_true (list_ext' (by simpa using h2'.out) fun j hj' => hj.out j (by simp at hj'; omega))⟩)
          have y1 : ¬ ((k : Int) < (l.length : Int)) := by omega
          go_wp2_with (fail)
          go_ret
          exact ⟨by rw [hz.out]; rfl, below_c hB0 hB⟩
    · have t1 : (((l.length : Nat) : Int) == ((m.length : Nat) : Int)) = false := by rw [beq_eq_false_iff_ne]; omega
      have hz : Hid (sameB q l q m = false) := Lib.hid (by
        unfold sameB
        rw [Bool.and_eq_false_iff]; right
        rw [decide_eq_false_iff_not]; intro e
        have := congrArg List.length e
        simp at this; exact h2 this)
      go_wp2_with (fail)
      go_ret
      exact ⟨by rw [hz.out]; rfl, hB0⟩
  · have t0 : (q == p) = false := beq_eq_false_iff_ne.2 h1
    have hz : Hid (sameB q l p m = false) := Lib.hid (by unfold sameB; rw [t0]; rfl)
    go_wp2_with (fail)
    go_ret
    exact ⟨by rw [hz.out]; rfl, hB0⟩
end
section
open Go.RowKit
set_option linter.unusedVariables false
set_option linter.unusedSimpArgs false

open Rc
theorem incB_cons (top last : Int) (s : St) (r : List St) : incB top last (s :: r) = (!(decide (s.n ≤ last)) && (!(decide (s.n ≥ top)) && incB top s.n r)) := rfl
/-- What is left to be shown when i stripes are over. -/
def restB (top k last : Int) (l : List St) : Bool := incB top last l && l.all (stB k)
theorem restB_nil (top k last : Int) : restB top k last [] = true := rfl
theorem restB_le {top k last : Int} {s : St} {r : List St} (h : s.n ≤ last) : restB top k last (s :: r) = false := by
  simp [restB, incB_cons, h]
theorem restB_ge {top k last : Int} {s : St} {r : List St} (h : s.n ≥ top) : restB top k last (s :: r) = false := by
  simp [restB, incB_cons, h]
theorem restB_st {top k last : Int} {s : St} {r : List St} (h : stB k s = false) : restB top k last (s :: r) = false := by
  simp [restB, h]
theorem restB_ok {top k last : Int} {s : St} {r : List St} (h1 : ¬ s.n ≤ last) (h2 : ¬ s.n ≥ top) (h : stB k s = true) : restB top k last (s :: r) = restB top k s.n r := by
  simp only [restB, incB_cons, decide_eq_false h1, decide_eq_false h2, Bool.not_false, Bool.true_and, List.all_cons, h]
theorem stB_txt {k : Int} {s : St} (h : txtB s.d = false) : stB k s = false := by simp [stB, h]
theorem stB_len {k : Int} {s : St} (h : ((s.d.length : Int) == k) = false) : stB k s = false := by simp [stB, h]
theorem txtB_no {d : List ByteArray} {i : Nat} (hi : i < d.length) (h : ¬ (d[i].size : Int) = 120) : txtB d = false := by
  unfold txtB
  rw [List.all_eq_false]
  exact ⟨d[i], List.getElem_mem hi, by rw [beq_iff_eq]; exact h⟩
theorem txtB_yes {d : List ByteArray} (h : ∀ i (hi : i < d.length), (d[i].size : Int) = 120) : txtB d = true := by
  unfold txtB
  rw [List.all_eq_true]
  intro t ht
  obtain ⟨i, hi, rfl⟩ := List.getElem_of_mem ht
  rw [beq_iff_eq]; exact h i hi
set_option maxRecDepth 100000 in
set_option maxHeartbeats 4000000 in
theorem rright11_any (K M B q : Int) (v : Value) (l : List St) (w : World) (hl : SReads w v l) (hn : l.length ≤ 140737488355328) :
    Calls Tryd.prog 18 #[.agg #[.int .i64 K, .int .i64 M, .int .i64 B], .agg #[.int .i64 q, v]] w (Tells w (.bool (rightB K M B q l))) := by
  obtain ⟨ha, hb, hB0, hs⟩ := two_boxes w #[.int .i64 K, .int .i64 M, .int .i64 B] #[.int .i64 q, v] 23 26 _ rfl
  have hl1 := hl.below hB0
  obtain ⟨x, xc, rfl, gl⟩ := hl1
  have a0 := ha 0
  have a1 := ha 1
  have a2 := ha 2
  have b0 := hb 0
  have b1 := hb 1
  clear hl ha hb
  simp only [List.getElem?_toArray, List.getElem?_cons_zero, List.getElem?_cons_succ] at a0 a1 a2 b0 b1
  go_enter Tryd.func18, Tryd.ntmps18
  go_upto_region 1 with (fail)
  generalize (w.alloc (.cells #[.int .i64 K, .int .i64 M, .int .i64 B] 23)).alloc (.cells #[.int .i64 q, .slice x l.length xc] 26) = w0 at *
  obtain ⟨g, hg⟩ : ∃ g, w.heap.size = g := ⟨_, rfl⟩
  rw [hg] at a0 a1 a2 b0 b1 hs ⊢
  replace hg := Lib.hid hg
  go_wp2_with (fail)
  refine (rright_any K M B w0).mono ?_
  rintro e w1 ⟨rfl, bw⟩
  have hB1 := below_c hB0 bw
  replace a0 := (bw.cell (p := ⟨g, 0, none⟩) (by show g < w0.heap.size; omega)).trans a0
  replace a1 := (bw.cell (p := ⟨g, 1, none⟩) (by show g < w0.heap.size; omega)).trans a1
  replace a2 := (bw.cell (p := ⟨g, 2, none⟩) (by show g < w0.heap.size; omega)).trans a2
  replace b0 := (bw.cell (p := ⟨g + 1, 0, none⟩) hs).trans b0
  replace b1 := (bw.cell (p := ⟨g + 1, 1, none⟩) hs).trans b1
  replace hs := Nat.lt_of_lt_of_le hs bw.size
  replace gl : ∀ i (hi : i < l.length), ∃ b o, x = some ⟨b, o, none⟩ ∧ SAt w1 b (o + i * 2) l[i] ∧ SOk w1 l[i] := fun i hi => by
    obtain ⟨b, o, e1, e2, e3⟩ := gl i hi
    exact ⟨b, o, e1, e2.below bw e2.lt, e3.below bw⟩
  clear bw hB0 w0
  cases hR : gR K M B with
  | false =>
    have hz : Hid (rightB K M B q l = false) := Lib.hid (by simp [rightB, ordB, hR])
    go_wp2_with (fail)
    go_ret
    exact ⟨by rw [hz.out]; rfl, hB1⟩
  | true =>
    by_cases h1 : q < 1
    · have hz : Hid (rightB K M B q l = false) := Lib.hid (by simp [rightB, ordB, show ¬ 1 ≤ q by omega])
      go_wp2_with (fail)
      go_ret
      exact ⟨by rw [hz.out]; rfl, hB1⟩
    by_cases h2 : 1099511627776 < q
    · have hz : Hid (rightB K M B q l = false) := Lib.hid (by simp [rightB, ordB, show ¬ q ≤ 1099511627776 by omega])
      go_wp2_with (fail)
      go_ret
      exact ⟨by rw [hz.out]; rfl, hB1⟩
    by_cases h3 : (l.length : Int) < 1
    · have hz : Hid (rightB K M B q l = false) := Lib.hid (by simp [rightB, ordB, show ¬ 1 ≤ l.length by omega])
      go_wp2_with (fail)
      go_ret
      exact ⟨by rw [hz.out]; rfl, hB1⟩
    by_cases h4 : 16 < (l.length : Int)
    · have hz : Hid (rightB K M B q l = false) := Lib.hid (by simp [rightB, ordB, show ¬ l.length ≤ 16 by omega])
      go_wp2_with (fail)
      go_ret
      exact ⟨by rw [hz.out]; rfl, hB1⟩
    have hr0 : Hid (rightB K M B q l = restB (gStripes K M B) K (-1) (l.drop 0)) := Lib.hid (by
      have e1 : decide (1 ≤ q ∧ q ≤ 1099511627776) = true := decide_eq_true ⟨by omega, by omega⟩
      have e2 : decide (1 ≤ l.length ∧ l.length ≤ 16) = true := decide_eq_true ⟨by omega, by omega⟩
      unfold rightB ordB restB
      rw [hR, e1, e2]; simp)
    go_wp2_with (fail)
    clear b0
    go_loopw [6, 7] (fun a i wr => ∃ (k : Nat) (last : Int), k ≤ l.length ∧ i = .int .i64 (k : Int) ∧ a = .int .i64 last ∧ Below w1.heap.size w1 wr ∧ Hid (rightB K M B q l = restB (gStripes K M B) K last (l.drop k))) (fun _ i _ => l.length - (intOf i).toNat)
    case atStart => exact ⟨0, -1, Nat.zero_le _, rfl, rfl, Below.refl _ _, hr0⟩
    case round =>
      obtain ⟨k, last, hk, rfl, rfl, hB, hrr⟩ := hrel
      rename World => wr
      clear hr0
      have c1 := (hB.cell (p := ⟨g + 1, 1, none⟩) hs).trans b1
      by_cases hlt : k < l.length
      · have y1 : (k : Int) < (l.length : Int) := by omega
        obtain ⟨p1, o1, rfl, A1, K1⟩ := gl k hlt
        have L1 := A1.below hB A1.lt
        replace K1 := K1.below hB
        have hdr : l.drop k = l[k] :: l.drop (k + 1) := List.drop_eq_getElem_cons hlt
        rw [hdr] at hrr
        clear A1 hdr
        generalize l[k] = s at *
        obtain ⟨rest, hrest⟩ : ∃ r, l.drop (k + 1) = r := ⟨_, rfl⟩
        rw [hrest] at hrr
        replace hrest := Lib.hid hrest
        obtain ⟨n, d, u⟩ := s
        obtain ⟨ua, uc, ev⟩ := K1.r.isSlice
        rw [List.length_map] at ev
        simp only at ev
        subst ev
        have ⟨f0, f1, fl⟩ := L1
        simp only at f0 f1
        have bk := (Below.refl wr.heap.size wr).alloc (Nat.le_refl _) (.cells #[.int .i64 n, .slice ua d.length uc] 52)
        have e0 := World.cell?_alloc_mark wr #[.int .i64 n, .slice ua d.length uc] 52 (0, 0) 0
        have e1 := World.cell?_alloc_mark wr #[.int .i64 n, .slice ua d.length uc] 52 (0, 0) 1
        have hlt2 : wr.heap.size < (wr.alloc (.cells #[.int .i64 n, .slice ua d.length uc] 52)).heap.size := by simp
        simp only [List.getElem?_toArray, List.getElem?_cons_zero, List.getElem?_cons_succ] at e0 e1
        go_upto_region 9 with (fail)
        have K2 := K1.below bk
        have B2 := below_c hB bk
        clear f0 f1 fl L1 K1 bk c1
        generalize wr.alloc (.cells #[.int .i64 n, .slice ua d.length uc] 52) = w2 at *
        obtain ⟨t, ht⟩ : ∃ t, wr.heap.size = t := ⟨_, rfl⟩
        rw [ht] at e0 e1 hlt2 ⊢
        clear ht
        have hg2 : g < w2.heap.size := by have := B2.size; omega
        have i0 := (B2.cell (p := ⟨g, 0, none⟩) (by show g < w1.heap.size; omega)).trans a0
        have i1 := (B2.cell (p := ⟨g, 1, none⟩) (by show g < w1.heap.size; omega)).trans a1
        have i2 := (B2.cell (p := ⟨g, 2, none⟩) (by show g < w1.heap.size; omega)).trans a2
        have cS := fun W => rstripes_any K M B W
        obtain ⟨top, htop⟩ : ∃ r, gStripes K M B = r := ⟨_, rfl⟩
        rw [htop] at hrr
        simp only [htop] at cS
        replace htop := Lib.hid htop
        by_cases h5 : n ≤ last
        · have hz : Hid (rightB K M B q l = false) := Lib.hid (by rw [hrr.out]; exact restB_le h5)
          refine wp_region_cls (Below w2.heap.size w2) (by kernel_rfl) (by kernel_rfl) (Below.refl _ _).drew ?_
          intro Z f hne hD hE
          have r0 : ∀ zz, (f zz).cell? ⟨t, 0, none⟩ = some (.int .i64 n) := fun zz => (clsCell hD zz _ _ hlt2).trans e0
          have r1 : ∀ zz, (f zz).cell? ⟨t, 1, none⟩ = some (.slice ua d.length uc) := fun zz => (clsCell hD zz _ _ hlt2).trans e1
          have r2 : ∀ zz, (f zz).cell? ⟨g, 0, none⟩ = some (.int .i64 K) := fun zz => (clsCell hD zz _ _ hg2).trans i0
          have r3 : ∀ zz, (f zz).cell? ⟨g, 1, none⟩ = some (.int .i64 M) := fun zz => (clsCell hD zz _ _ hg2).trans i1
          have r4 : ∀ zz, (f zz).cell? ⟨g, 2, none⟩ = some (.int .i64 B) := fun zz => (clsCell hD zz _ _ hg2).trans i2
          repeat (go_big_quiet_step (first | (go_at_call 35; with_reducible exact toQB hD hE _ (cS _))))
          refine wpQuiet_nil ?_
          intro _ hw'
          obtain ⟨zq, hw''⟩ := hw'
          subst hw''
          have B3 := below_c B2 (hD zq)
          clear r0 r1 r2 r3 r4
          go_wp2_with (fail)
          go_ret
          exact ⟨by rw [hz.out]; rfl, below_c hB1 B3⟩
        by_cases h6 : top ≤ n
        · have hz : Hid (rightB K M B q l = false) := Lib.hid (by rw [hrr.out]; exact restB_ge h6)
          refine wp_region_cls (Below w2.heap.size w2) (by kernel_rfl) (by kernel_rfl) (Below.refl _ _).drew ?_
          intro Z f hne hD hE
          have r0 : ∀ zz, (f zz).cell? ⟨t, 0, none⟩ = some (.int .i64 n) := fun zz => (clsCell hD zz _ _ hlt2).trans e0
          have r1 : ∀ zz, (f zz).cell? ⟨t, 1, none⟩ = some (.slice ua d.length uc) := fun zz => (clsCell hD zz _ _ hlt2).trans e1
          have r2 : ∀ zz, (f zz).cell? ⟨g, 0, none⟩ = some (.int .i64 K) := fun zz => (clsCell hD zz _ _ hg2).trans i0
          have r3 : ∀ zz, (f zz).cell? ⟨g, 1, none⟩ = some (.int .i64 M) := fun zz => (clsCell hD zz _ _ hg2).trans i1
          have r4 : ∀ zz, (f zz).cell? ⟨g, 2, none⟩ = some (.int .i64 B) := fun zz => (clsCell hD zz _ _ hg2).trans i2
          repeat (go_big_quiet_step (first | (go_at_call 35; with_reducible exact toQB hD hE _ (cS _))))
          refine wpQuiet_nil ?_
          intro _ hw'
          obtain ⟨zq, hw''⟩ := hw'
          subst hw''
          have B3 := below_c B2 (hD zq)
          clear r0 r1 r2 r3 r4
          go_wp2_with (fail)
          go_ret
          exact ⟨by rw [hz.out]; rfl, below_c hB1 B3⟩
        cases h7 : ((d.length : Int) == K) with
        | false =>
          have hz : Hid (rightB K M B q l = false) := Lib.hid (by rw [hrr.out]; exact restB_st (stB_len h7))
          refine wp_region_cls (Below w2.heap.size w2) (by kernel_rfl) (by kernel_rfl) (Below.refl _ _).drew ?_
          intro Z f hne hD hE
          have r0 : ∀ zz, (f zz).cell? ⟨t, 0, none⟩ = some (.int .i64 n) := fun zz => (clsCell hD zz _ _ hlt2).trans e0
          have r1 : ∀ zz, (f zz).cell? ⟨t, 1, none⟩ = some (.slice ua d.length uc) := fun zz => (clsCell hD zz _ _ hlt2).trans e1
          have r2 : ∀ zz, (f zz).cell? ⟨g, 0, none⟩ = some (.int .i64 K) := fun zz => (clsCell hD zz _ _ hg2).trans i0
          have r3 : ∀ zz, (f zz).cell? ⟨g, 1, none⟩ = some (.int .i64 M) := fun zz => (clsCell hD zz _ _ hg2).trans i1
          have r4 : ∀ zz, (f zz).cell? ⟨g, 2, none⟩ = some (.int .i64 B) := fun zz => (clsCell hD zz _ _ hg2).trans i2
          repeat (go_big_quiet_step (first | (go_at_call 35; with_reducible exact toQB hD hE _ (cS _))))
          refine wpQuiet_nil ?_
          intro _ hw'
          obtain ⟨zq, hw''⟩ := hw'
          subst hw''
          have B3 := below_c B2 (hD zq)
          clear r0 r1 r2 r3 r4
          go_wp2_with (fail)
          go_ret
          exact ⟨by rw [hz.out]; rfl, below_c hB1 B3⟩
        | true =>
          have hz : Hid (txtB d = true → rightB K M B q l = restB top K n rest) := Lib.hid fun hx => by
            rw [hrr.out]
            exact restB_ok (s := ⟨n, d, .slice ua d.length uc⟩) h5 h6 (by simp only [stB, h7, hx]; rfl)
          have hy : Hid (txtB d = false → rightB K M B q l = false) := Lib.hid fun hx => by
            rw [hrr.out]; exact restB_st (stB_txt hx)
          refine wp_region_cls (Below w2.heap.size w2) (by kernel_rfl) (by kernel_rfl) (Below.refl _ _).drew ?_
          intro Z f hne hD hE
          have r0 : ∀ zz, (f zz).cell? ⟨t, 0, none⟩ = some (.int .i64 n) := fun zz => (clsCell hD zz _ _ hlt2).trans e0
          have r1 : ∀ zz, (f zz).cell? ⟨t, 1, none⟩ = some (.slice ua d.length uc) := fun zz => (clsCell hD zz _ _ hlt2).trans e1
          have r2 : ∀ zz, (f zz).cell? ⟨g, 0, none⟩ = some (.int .i64 K) := fun zz => (clsCell hD zz _ _ hg2).trans i0
          have r3 : ∀ zz, (f zz).cell? ⟨g, 1, none⟩ = some (.int .i64 M) := fun zz => (clsCell hD zz _ _ hg2).trans i1
          have r4 : ∀ zz, (f zz).cell? ⟨g, 2, none⟩ = some (.int .i64 B) := fun zz => (clsCell hD zz _ _ hg2).trans i2
          repeat (go_big_quiet_step (first | (go_at_call 35; with_reducible exact toQB hD hE _ (cS _))))
          refine wpQuiet_nil ?_
          intro _ hw'
          obtain ⟨zq, hw''⟩ := hw'
          subst hw''
          have B3 := below_c B2 (hD zq)
          clear r0 r1 r2 r3 r4
          have E0 := (clsCell hD zq _ _ hlt2).trans e0
          have E1 := (clsCell hD zq _ _ hlt2).trans e1
          have hlt3 := Nat.lt_of_lt_of_le hlt2 (hD zq).size
          have K3 := K2.below (hD zq)
          clear hD hE e0 e1 hlt2 K2 B2 hrr cS
          generalize f zq = w3 at *
          go_wp2_with (fail)
          clear E0 h5 h6 h7
          obtain ⟨ua', uc', ev, gd⟩ := K3.r.items
          simp only [Value.slice.injEq, true_and] at ev
          obtain ⟨rfl, rfl⟩ := ev
          go_loopw [9] (fun j W => ∃ k : Nat, k ≤ d.length ∧ j = .int .i64 (k : Int) ∧ Below w3.heap.size w3 W ∧ Hid (∀ i (hi : i < d.length), i < k → (d[i].size : Int) = 120)) (fun j _ => d.length - (intOf j).toNat)
          case atStart => exact ⟨0, Nat.zero_le _, rfl, Below.refl _ _, Lib.hid fun i hi h => absurd h (Nat.not_lt_zero _)⟩
          case round =>
            obtain ⟨i, hi, rfl, hW, hall⟩ := hrel
            rename World => W
            have E2 := (hW.cell (p := ⟨t, 1, none⟩) hlt3).trans E1
            have hdn := K3.n
            simp only at hdn
            by_cases hid : i < d.length
            · have y2 : (i : Int) < (d.length : Int) := by omega
              obtain ⟨p2, o2, rfl, l2, c2⟩ := gd i hid
              have c3 := (hW.cell (p := ⟨p2, o2 + i, none⟩) l2).trans c2
              by_cases h8 : (d[i].size : Int) = 120
              · have hall' : Hid (∀ j (hj : j < d.length), j < i + 1 → (d[j].size : Int) = 120) := Lib.hid fun j hj hji => by
                  by_cases e : j = i
                  · subst e; exact h8
                  · exact hall.out j hj (by omega)
                clear c2
                generalize d[i] = tx at *
                have t8 : ((tx.size : Int) == 120) = true := by rw [h8]; rfl
                go_wp2_with (fail)
                go_roundw
                case rel => exact ⟨i + 1, by omega, by go_num, hW, hall'⟩
                case measure => simp [intOf]; omega
              · have hx := hy.out (txtB_no hid h8)
                replace hx := Lib.hid hx
                clear c2
                generalize d[i] = tx at *
                have t8 : ((tx.size : Int) == 120) = false := beq_eq_false_iff_ne.2 h8
                go_wp2_with (fail)
                go_ret
                exact ⟨by rw [hx.out]; rfl, below_c (below_c hB1 B3) hW⟩
            · have hx := hz.out (txtB_yes fun j hj => hall.out j hj (by omega))
              replace hx := Lib.hid hx
              have y2 : ¬ ((i : Int) < (d.length : Int)) := by omega
              go_wp2_with (fail)
              go_roundw
              case rel => exact ⟨k + 1, n, by omega, by go_num, rfl, below_c B3 hW, by rw [htop.out, hrest.out]; exact hx⟩
              case measure => simp [intOf]; omega
      · have hz : Hid (rightB K M B q l = true) := Lib.hid (by
          rw [hrr.out, List.drop_eq_nil_of_le (by omega)]; rfl)
        have y1 : ¬ ((k : Int) < (l.length : Int)) := by omega
        go_wp2_with (fail)
        go_ret
        exact ⟨by rw [hz.out]; rfl, below_c hB1 hB⟩
end
section
open Go.RowKit
set_option linter.unusedVariables false
set_option linter.unusedSimpArgs false

open Rc
theorem incB_le {top last : Int} {s : St} {r : List St} (h : s.n ≤ last) : incB top last (s :: r) = false := by simp [incB_cons, h]
theorem incB_ge {top last : Int} {s : St} {r : List St} (h : s.n ≥ top) : incB top last (s :: r) = false := by simp [incB_cons, h]
theorem incB_ok {top last : Int} {s : St} {r : List St} (h1 : ¬ s.n ≤ last) (h2 : ¬ s.n ≥ top) : incB top last (s :: r) = incB top s.n r := by
  simp only [incB_cons, decide_eq_false h1, decide_eq_false h2, Bool.not_false, Bool.true_and]
set_option maxRecDepth 100000 in
set_option maxHeartbeats 4000000 in
theorem ordered_any (K M B q : Int) (v : Value) (l : List St) (w : World) (hl : SReads w v l) (hn : l.length ≤ 140737488355328) :
    Calls Tryd.prog 33 #[.agg #[.int .i64 K, .int .i64 M, .int .i64 B], .agg #[.int .i64 q, v]] w (Tells w (.bool (ordB K M B q l))) := by
  obtain ⟨ha, hb, hB0, hs⟩ := two_boxes w #[.int .i64 K, .int .i64 M, .int .i64 B] #[.int .i64 q, v] 23 26 _ rfl
  have hl1 := hl.below hB0
  obtain ⟨x, xc, rfl, gl⟩ := hl1
  have a0 := ha 0
  have a1 := ha 1
  have a2 := ha 2
  have b0 := hb 0
  have b1 := hb 1
  clear hl ha hb
  simp only [List.getElem?_toArray, List.getElem?_cons_zero, List.getElem?_cons_succ] at a0 a1 a2 b0 b1
  go_enter Tryd.func33, Tryd.ntmps33
  go_upto_region 1 with (fail)
  generalize (w.alloc (.cells #[.int .i64 K, .int .i64 M, .int .i64 B] 23)).alloc (.cells #[.int .i64 q, .slice x l.length xc] 26) = w0 at *
  obtain ⟨g, hg⟩ : ∃ g, w.heap.size = g := ⟨_, rfl⟩
  rw [hg] at a0 a1 a2 b0 b1 hs ⊢
  replace hg := Lib.hid hg
  go_wp2_with (fail)
  refine (right_any K M B w0).mono ?_
  rintro e w1 ⟨rfl, bw⟩
  have hB1 := below_c hB0 bw
  replace a0 := (bw.cell (p := ⟨g, 0, none⟩) (by show g < w0.heap.size; omega)).trans a0
  replace a1 := (bw.cell (p := ⟨g, 1, none⟩) (by show g < w0.heap.size; omega)).trans a1
  replace a2 := (bw.cell (p := ⟨g, 2, none⟩) (by show g < w0.heap.size; omega)).trans a2
  replace b0 := (bw.cell (p := ⟨g + 1, 0, none⟩) hs).trans b0
  replace b1 := (bw.cell (p := ⟨g + 1, 1, none⟩) hs).trans b1
  replace hs := Nat.lt_of_lt_of_le hs bw.size
  replace gl : ∀ i (hi : i < l.length), ∃ b o, x = some ⟨b, o, none⟩ ∧ SAt w1 b (o + i * 2) l[i] ∧ SOk w1 l[i] := fun i hi => by
    obtain ⟨b, o, e1, e2, e3⟩ := gl i hi
    exact ⟨b, o, e1, e2.below bw e2.lt, e3.below bw⟩
  clear bw hB0 w0
  cases hR : gR K M B with
  | false =>
    have hz : Hid (ordB K M B q l = false) := Lib.hid (by simp [ordB, hR])
    go_wp2_with (fail)
    go_ret
    exact ⟨by rw [hz.out]; rfl, hB1⟩
  | true =>
    by_cases h1 : q < 1
    · have hz : Hid (ordB K M B q l = false) := Lib.hid (by simp [ordB, show ¬ 1 ≤ q by omega])
      go_wp2_with (fail)
      go_ret
      exact ⟨by rw [hz.out]; rfl, hB1⟩
    by_cases h2 : 1099511627776 < q
    · have hz : Hid (ordB K M B q l = false) := Lib.hid (by simp [ordB, show ¬ q ≤ 1099511627776 by omega])
      go_wp2_with (fail)
      go_ret
      exact ⟨by rw [hz.out]; rfl, hB1⟩
    by_cases h3 : (l.length : Int) < 1
    · have hz : Hid (ordB K M B q l = false) := Lib.hid (by simp [ordB, show ¬ 1 ≤ l.length by omega])
      go_wp2_with (fail)
      go_ret
      exact ⟨by rw [hz.out]; rfl, hB1⟩
    by_cases h4 : 16 < (l.length : Int)
    · have hz : Hid (ordB K M B q l = false) := Lib.hid (by simp [ordB, show ¬ l.length ≤ 16 by omega])
      go_wp2_with (fail)
      go_ret
      exact ⟨by rw [hz.out]; rfl, hB1⟩
    have hr0 : Hid (ordB K M B q l = incB (gStripes K M B) (-1) (l.drop 0)) := Lib.hid (by
      have e1 : decide (1 ≤ q ∧ q ≤ 1099511627776) = true := decide_eq_true ⟨by omega, by omega⟩
      have e2 : decide (1 ≤ l.length ∧ l.length ≤ 16) = true := decide_eq_true ⟨by omega, by omega⟩
      unfold ordB
      rw [hR, e1, e2]; simp)
    go_wp2_with (fail)
    clear b0
    go_loopw [5, 36] (fun a i wr => ∃ (k : Nat) (last : Int), k ≤ l.length ∧ i = .int .i64 (k : Int) ∧ a = .int .i64 last ∧ Below w1.heap.size w1 wr ∧ Hid (ordB K M B q l = incB (gStripes K M B) last (l.drop k))) (fun _ i _ => l.length - (intOf i).toNat)
    case atStart => exact ⟨0, -1, Nat.zero_le _, rfl, rfl, Below.refl _ _, hr0⟩
    case round =>
      obtain ⟨k, last, hk, rfl, rfl, hB, hrr⟩ := hrel
      rename World => wr
      clear hr0
      have c1 := (hB.cell (p := ⟨g + 1, 1, none⟩) hs).trans b1
      by_cases hlt : k < l.length
      · have y1 : (k : Int) < (l.length : Int) := by omega
        obtain ⟨p1, o1, rfl, A1, K1⟩ := gl k hlt
        have L1 := A1.below hB A1.lt
        replace K1 := K1.below hB
        have hdr : l.drop k = l[k] :: l.drop (k + 1) := List.drop_eq_getElem_cons hlt
        rw [hdr] at hrr
        clear A1 hdr
        generalize l[k] = s at *
        obtain ⟨rest, hrest⟩ : ∃ r, l.drop (k + 1) = r := ⟨_, rfl⟩
        rw [hrest] at hrr
        replace hrest := Lib.hid hrest
        obtain ⟨n, d, u⟩ := s
        obtain ⟨ua, uc, ev⟩ := K1.r.isSlice
        rw [List.length_map] at ev
        simp only at ev
        subst ev
        have ⟨f0, f1, fl⟩ := L1
        simp only at f0 f1
        have bk := (Below.refl wr.heap.size wr).alloc (Nat.le_refl _) (.cells #[.int .i64 n, .slice ua d.length uc] 52)
        have e0 := World.cell?_alloc_mark wr #[.int .i64 n, .slice ua d.length uc] 52 (0, 0) 0
        have e1 := World.cell?_alloc_mark wr #[.int .i64 n, .slice ua d.length uc] 52 (0, 0) 1
        have hlt2 : wr.heap.size < (wr.alloc (.cells #[.int .i64 n, .slice ua d.length uc] 52)).heap.size := by simp
        simp only [List.getElem?_toArray, List.getElem?_cons_zero, List.getElem?_cons_succ] at e0 e1
        go_upto_region 7 with (fail)
        have K2 := K1.below bk
        have B2 := below_c hB bk
        clear f0 f1 fl L1 K1 bk c1
        generalize wr.alloc (.cells #[.int .i64 n, .slice ua d.length uc] 52) = w2 at *
        obtain ⟨t, ht⟩ : ∃ t, wr.heap.size = t := ⟨_, rfl⟩
        rw [ht] at e0 e1 hlt2 ⊢
        clear ht
        have hg2 : g < w2.heap.size := by have := B2.size; omega
        have i0 := (B2.cell (p := ⟨g, 0, none⟩) (by show g < w1.heap.size; omega)).trans a0
        have i1 := (B2.cell (p := ⟨g, 1, none⟩) (by show g < w1.heap.size; omega)).trans a1
        have i2 := (B2.cell (p := ⟨g, 2, none⟩) (by show g < w1.heap.size; omega)).trans a2
        have cS := fun W => stripes_any K M B W
        obtain ⟨top, htop⟩ : ∃ r, gStripes K M B = r := ⟨_, rfl⟩
        rw [htop] at hrr
        simp only [htop] at cS
        replace htop := Lib.hid htop
        by_cases h5 : n ≤ last
        · have hz : Hid (ordB K M B q l = false) := Lib.hid (by rw [hrr.out]; exact incB_le h5)
          refine wp_region_cls (Below w2.heap.size w2) (by kernel_rfl) (by kernel_rfl) (Below.refl _ _).drew ?_
          intro Z f hne hD hE
          have r0 : ∀ zz, (f zz).cell? ⟨t, 0, none⟩ = some (.int .i64 n) := fun zz => (clsCell hD zz _ _ hlt2).trans e0
          have r2 : ∀ zz, (f zz).cell? ⟨g, 0, none⟩ = some (.int .i64 K) := fun zz => (clsCell hD zz _ _ hg2).trans i0
          have r3 : ∀ zz, (f zz).cell? ⟨g, 1, none⟩ = some (.int .i64 M) := fun zz => (clsCell hD zz _ _ hg2).trans i1
          have r4 : ∀ zz, (f zz).cell? ⟨g, 2, none⟩ = some (.int .i64 B) := fun zz => (clsCell hD zz _ _ hg2).trans i2
          repeat (go_big_quiet_step (first | (go_at_call 60; with_reducible exact toQB hD hE _ (cS _))))
          refine wpQuiet_nil ?_
          intro _ hw'
          obtain ⟨zq, hw''⟩ := hw'
          subst hw''
          have B3 := below_c B2 (hD zq)
          clear r0 r2 r3 r4
          go_wp2_with (fail)
          go_ret
          exact ⟨by rw [hz.out]; rfl, below_c hB1 B3⟩
        by_cases h6 : top ≤ n
        · have hz : Hid (ordB K M B q l = false) := Lib.hid (by rw [hrr.out]; exact incB_ge h6)
          refine wp_region_cls (Below w2.heap.size w2) (by kernel_rfl) (by kernel_rfl) (Below.refl _ _).drew ?_
          intro Z f hne hD hE
          have r0 : ∀ zz, (f zz).cell? ⟨t, 0, none⟩ = some (.int .i64 n) := fun zz => (clsCell hD zz _ _ hlt2).trans e0
          have r2 : ∀ zz, (f zz).cell? ⟨g, 0, none⟩ = some (.int .i64 K) := fun zz => (clsCell hD zz _ _ hg2).trans i0
          have r3 : ∀ zz, (f zz).cell? ⟨g, 1, none⟩ = some (.int .i64 M) := fun zz => (clsCell hD zz _ _ hg2).trans i1
          have r4 : ∀ zz, (f zz).cell? ⟨g, 2, none⟩ = some (.int .i64 B) := fun zz => (clsCell hD zz _ _ hg2).trans i2
          repeat (go_big_quiet_step (first | (go_at_call 60; with_reducible exact toQB hD hE _ (cS _))))
          refine wpQuiet_nil ?_
          intro _ hw'
          obtain ⟨zq, hw''⟩ := hw'
          subst hw''
          have B3 := below_c B2 (hD zq)
          clear r0 r2 r3 r4
          go_wp2_with (fail)
          go_ret
          exact ⟨by rw [hz.out]; rfl, below_c hB1 B3⟩
        have hz : Hid (ordB K M B q l = incB top n rest) := Lib.hid (by
          rw [hrr.out]
          exact incB_ok (s := ⟨n, d, .slice ua d.length uc⟩) h5 h6)
        refine wp_region_cls (Below w2.heap.size w2) (by kernel_rfl) (by kernel_rfl) (Below.refl _ _).drew ?_
        intro Z f hne hD hE
        have r0 : ∀ zz, (f zz).cell? ⟨t, 0, none⟩ = some (.int .i64 n) := fun zz => (clsCell hD zz _ _ hlt2).trans e0
        have r2 : ∀ zz, (f zz).cell? ⟨g, 0, none⟩ = some (.int .i64 K) := fun zz => (clsCell hD zz _ _ hg2).trans i0
        have r3 : ∀ zz, (f zz).cell? ⟨g, 1, none⟩ = some (.int .i64 M) := fun zz => (clsCell hD zz _ _ hg2).trans i1
        have r4 : ∀ zz, (f zz).cell? ⟨g, 2, none⟩ = some (.int .i64 B) := fun zz => (clsCell hD zz _ _ hg2).trans i2
        repeat (go_big_quiet_step (first | (go_at_call 60; with_reducible exact toQB hD hE _ (cS _))))
        refine wpQuiet_nil ?_
        intro _ hw'
        obtain ⟨zq, hw''⟩ := hw'
        subst hw''
        have B3 := below_c B2 (hD zq)
        clear r0 r2 r3 r4
        have E0 := (clsCell hD zq _ _ hlt2).trans e0
        clear hD hE e0 e1 hlt2 K2 B2 hrr cS
        generalize f zq = w3 at *
        go_wp2_with (fail)
        go_roundw
        case rel => exact ⟨k + 1, n, by omega, by go_num, rfl, B3, by rw [htop.out, hrest.out]; exact hz⟩
        case measure => simp [intOf]; omega
      · have hz : Hid (ordB K M B q l = true) := Lib.hid (by
          rw [hrr.out, List.drop_eq_nil_of_le (by omega)]; rfl)
        have y1 : ¬ ((k : Int) < (l.length : Int)) := by omega
        go_wp2_with (fail)
        go_ret
        exact ⟨by rw [hz.out]; rfl, below_c hB1 hB⟩
end
end Go.Proofs.YtdbjfofnkijmoaaDoor
