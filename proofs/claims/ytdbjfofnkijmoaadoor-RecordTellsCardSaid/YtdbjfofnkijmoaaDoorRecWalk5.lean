/- record: Right. -/
import Derived.Test.YtdbjfofnkijmoaaDoorRecWalk3
import Derived.RangeFuncNested
import Derived.RangeFuncBound
import Derived.RangeFuncCalls
import Derived.RangeFuncLeaves
import Derived.RangeFuncBox
import Derived.Shelf.Abstract
import Derived.Shelf.RegionOpen
import Derived.WalkKit
import Derived.OwnWalkIn
import Derived.TacticsInMore
import Derived.LoopNIn
import Derived.LoopIn
import Derived.RangeFuncFrom
namespace Go.Proofs.YtdbjfofnkijmoaaDoor
section
open Go Go.RowKit Go.Shelf
attribute [local go_sem] Oper.semAt_some
set_option linter.unusedVariables false
set_option linter.unusedSimpArgs false

open Rc
/-- The data of a record, in its order. -/
def allT (l : List St) : List ByteArray := l.flatMap fun s => s.d
/-- What has come when i stripes are over, and j texts of the next. -/
def cameT (l : List St) (i : Nat) : List ByteArray := allT (l.take i)
theorem cameT_zero (l : List St) : cameT l 0 = [] := rfl
theorem cameT_succ (l : List St) {i : Nat} (hi : i < l.length) : cameT l (i + 1) = cameT l i ++ l[i].d := by
  unfold cameT allT
  rw [List.take_succ_eq_append_getElem hi, List.flatMap_append]
  simp
theorem cameT_all (l : List St) : cameT l l.length = allT l := by unfold cameT; rw [List.take_length]
theorem cameT_pre (l : List St) {i j : Nat} (hi : i < l.length) : cameT l i ++ l[i].d.take j <+: allT l := by
  refine ⟨l[i].d.drop j ++ allT (l.drop (i + 1)), ?_⟩
  rw [List.append_assoc, ← List.append_assoc (l[i].d.take j), List.take_append_drop, ← List.append_assoc, ← cameT_succ l hi]
  unfold cameT allT
  rw [← List.flatMap_append, List.take_append_drop]
theorem cameT_lt (l : List St) {i j : Nat} (hi : i < l.length) (hj : j < l[i].d.length) : (cameT l i ++ l[i].d.take j).length < (allT l).length := by
  have h := (cameT_pre l (j := j + 1) hi).length_le
  rw [List.take_succ_eq_append_getElem hj] at h
  simp only [List.length_append, List.length_cons, List.length_nil] at h ⊢
  omega
theorem abides_alloc {β : Type} {B : Nat} {J : β → World → Prop} (h : AbidesFrom B J) {s : β} {W : World} (hs : J s W) (o : Obj) : J s (W.alloc o) :=
  h s W _ none hs (World.grownBy_alloc W o none) (fun r e => by cases e)
set_option maxRecDepth 100000 in
set_option maxHeartbeats 4000000 in
theorem contents1_in (F : Fence) (n : Nat) (hf : F.fn 46) (hro : F.round = none) (hn : 1 ≤ n) (l Bs B0 : Nat) (x : Option Addr) (xc : Nat) (ss : List St) (w0 : World) (hS : SReads w0 (.slice x ss.length xc) ss) (hss : ss.length ≤ 140737488351232) (J Jx : List ByteArray → World → Prop)
    (hY : ∀ pre t W, J pre W → pre.length < (allT ss).length → YieldAt F (n - 1) Tryd.prog l #[.string t] W fun e W' =>
      (e = .returned (.bool true) ∧ J (pre ++ [t]) W' ∧ Below w0.heap.size W W') ∨ (e = .returned (.bool false) ∧ Jx (pre ++ [t]) W'))
    (W : World) (hJ : AbidesFrom B0 J) (hW : Below w0.heap.size w0 W) (hBs : W.cell? ⟨Bs, 1, none⟩ = some (.slice x ss.length xc)) (h0 : J [] W) :
    CallsIn F n Tryd.prog 46 #[.func (.yield l) #[] #[], .pointer (some ⟨Bs, 0, none⟩)] W fun e W' => (∃ v, e = .returned v) ∧
      ((∃ ys, ys = allT ss ∧ J ys W') ∨ (∃ pre, pre <+: allT ss ∧ Jx pre W')) := by
  obtain ⟨x', xc', ev, gl⟩ := hS
  obtain ⟨rfl, rfl⟩ : x = x' ∧ xc = xc' := by simpa using ev
  clear ev
  refine callsIn_of_wp Tryd.func46 rfl hf ?_ hro
  simp only [Tryd.ntmps46, List.size_toArray, List.length_cons, List.length_nil, Nat.reduceAdd, Nat.reduceSub, Array.replicate_succ, Array.replicate_zero, List.push_toArray, List.append_toArray, List.nil_append, List.cons_append]
  gi_wp2
  clear hBs
  gi_loopw [10] (fun i wr => ∃ k : Nat, k ≤ ss.length ∧ i = .int .i64 (k : Int) ∧ J (cameT ss k) wr ∧ Below w0.heap.size w0 wr) (fun i _ => ss.length - (intOf i).toNat)
  case atStart => exact ⟨0, Nat.zero_le _, rfl, h0, hW⟩
  case round =>
    obtain ⟨k, hk, rfl, hJs, hB⟩ := hrel
    rename World => wr
    clear h0 hW
    by_cases hlt : k < ss.length
    · have y1 : (k : Int) < (ss.length : Int) := by omega
      obtain ⟨p1, o1, rfl, A1, K1⟩ := gl k hlt
      have L1 := A1.below hB A1.lt
      have K2 := K1.below hB
      have hcs := cameT_succ ss hlt
      have hcp := fun j => cameT_pre ss (j := j) hlt
      have hcl := fun j => cameT_lt ss (j := j) hlt
      clear A1
      generalize ss[k] = s at *
      obtain ⟨m, d, u⟩ := s
      obtain ⟨ua, uc, ev, gd⟩ := K1.r.items
      simp only at ev
      subst ev
      have ⟨f0, f1, fl⟩ := L1
      simp only at f0 f1 hcs hcp hcl
      have bk := (Below.refl wr.heap.size wr).alloc (Nat.le_refl _) (.cells #[.int .i64 m, .slice ua d.length uc] 52)
      have e1 := World.cell?_alloc_mark wr #[.int .i64 m, .slice ua d.length uc] 52 (0, 0) 1
      simp only [List.getElem?_toArray, List.getElem?_cons_zero, List.getElem?_cons_succ] at e1
      have hJ2 := abides_alloc hJ hJs (.cells #[.int .i64 m, .slice ua d.length uc] 52)
      have B2 := below_c hB bk
      have hdn := K1.n
      simp only at hdn
      gi_wp2
      clear f0 f1 fl L1 K1 K2 bk hJs e1
      generalize wr.alloc (.cells #[.int .i64 m, .slice ua d.length uc] 52) = w2 at *
      gi_loopw [17] (fun j W => ∃ i : Nat, i ≤ d.length ∧ j = .int .i64 (i : Int) ∧ J (cameT ss k ++ d.take i) W ∧ Below w0.heap.size w0 W) (fun j _ => d.length - (intOf j).toNat)
      case atStart => exact ⟨0, Nat.zero_le _, rfl, by rw [List.take_zero, List.append_nil]; exact hJ2, B2⟩
      case round =>
        obtain ⟨i, hi, rfl, hJi, hW⟩ := hrel
        rename World => W3
        clear hJ2 B2
        by_cases hid : i < d.length
        · have y2 : (i : Int) < (d.length : Int) := by omega
          obtain ⟨p2, o2, rfl, l2, c2⟩ := gd i hid
          have c3 := (hW.cell (p := ⟨p2, o2 + i, none⟩) l2).trans c2
          have hts := List.take_succ_eq_append_getElem hid
          obtain ⟨fn, tmps, assign, body, hy, hR⟩ := hY _ d[i] W3 hJi (hcl i hid)
          have hc3 : cameT ss k ++ d.take i ++ [d[i]] = cameT ss k ++ d.take (i + 1) := by rw [hts, List.append_assoc]
          rw [hc3] at hR
          clear c2 hts hc3
          generalize d[i] = tx at *
          gi_wp2
          refine hR.mono ?_
          rintro e W4 (⟨rfl, hJ3, hk3⟩ | ⟨rfl, hJx3⟩)
          · gi_wp2
            go_roundw
            case rel => exact ⟨i + 1, by omega, by simp, hJ3, hW.trans hk3⟩
            case measure => simp [intOf]; omega
          · gi_wp2
            refine bodyPost_ret (results_none rfl _ _ _) rfl ?_
            exact ⟨⟨_, rfl⟩, .inr ⟨_, hcp (i + 1), hJx3⟩⟩
        · obtain rfl : i = d.length := by omega
          rw [List.take_length, ← hcs] at hJi
          gi_wp2
          go_roundw
          case rel => exact ⟨k + 1, by omega, by simp, hJi, hW⟩
          case measure => simp [intOf]; omega
    · obtain rfl : k = ss.length := by omega
      rw [cameT_all] at hJs
      gi_wp2
      go_end0
      exact ⟨⟨_, rfl⟩, .inl ⟨_, rfl, hJs⟩⟩
end
section
open Go Go.RowKit Go.Shelf
attribute [local go_sem] Oper.semAt_some
set_option linter.unusedVariables false
set_option linter.unusedSimpArgs false

open Rc
theorem contents_in (q : Int) (v : Value) (w : World) :
    Calls Tryd.prog 27 #[.agg #[.int .i64 q, v]] w fun e w' => e = .returned (.func (.func 46) #[] #[.pointer (some ⟨w.heap.size, 0, none⟩)]) ∧ w' = w.alloc (.cells #[.int .i64 q, v] 26) := by
  go_enter Tryd.func27, Tryd.ntmps27
  go_wp2_with (fail)
  go_ret
  exact ⟨rfl, rfl⟩
theorem contents_stops (F : Fence) (n : Nat) (hf : F.fn 46) (hro : F.round = none) (hn : 1 ≤ n) (Bs : Nat) (x : Option Addr) (xc : Nat) (ss : List St) (w0 : World) (hS : SReads w0 (.slice x ss.length xc) ss) (hss : ss.length ≤ 140737488351232)
    (w : World) (hBs : Bs < w.heap.size) (hB : Below w0.heap.size w0 w) (hc : w.cell? ⟨Bs, 1, none⟩ = some (.slice x ss.length xc)) :
    SeqStopsK F n Tryd.prog 46 #[.pointer (some ⟨Bs, 0, none⟩)] (fun t : ByteArray => #[.string t]) (Below w0.heap.size) (fun ys => ys = allT ss) (fun pre => pre <+: allT ss) (allT ss).length w := fun l J Jx W hW hJ hJx hY h0 => by
  have hc' := (hW.cell (p := ⟨Bs, 1, none⟩) hBs).trans hc
  exact contents1_in F n hf hro hn l Bs W.heap.size x xc ss w0 hS hss J Jx hY W hJ (hB.trans (hW.mono hB.size)) hc' h0
theorem three_boxes (w : World) (c d e : Array Value) (S T U : TypeId) : ∀ W, W = ((w.alloc (.cells c S)).alloc (.cells d T)).alloc (.cells e U) →
    (∀ j, W.cell? ⟨w.heap.size, j, none⟩ = c[j]?) ∧ (∀ j, W.cell? ⟨w.heap.size + 1, j, none⟩ = d[j]?) ∧ (∀ j, W.cell? ⟨w.heap.size + 1 + 1, j, none⟩ = e[j]?) ∧ (∀ j, W.frozen? ⟨w.heap.size + 1 + 1, j, none⟩ = false) ∧ Below w.heap.size w W ∧ w.heap.size + 1 + 1 < W.heap.size := by
  rintro W rfl
  obtain ⟨h1, h2, h3, h4⟩ := two_boxes w c d S T _ rfl
  have es : ((w.alloc (.cells c S)).alloc (.cells d T)).heap.size = w.heap.size + 1 + 1 := by simp
  refine ⟨fun j => ?_, fun j => ?_, fun j => ?_, fun j => ?_, h3.alloc (by rw [es]; omega) _, by simp⟩
  · rw [World.cell?_alloc_old _ _ _ (by rw [es]; show w.heap.size ≠ _; omega)]; exact h1 j
  · rw [World.cell?_alloc_old _ _ _ (by rw [es]; show w.heap.size + 1 ≠ _; omega)]; exact h2 j
  · have := World.cell?_alloc_mark ((w.alloc (.cells c S)).alloc (.cells d T)) e U (0, 0) j
    rw [es] at this; exact this
  · have := frozen_of_row (((w.alloc (.cells c S)).alloc (.cells d T)).alloc (.cells e U)) (w.heap.size + 1 + 1) j e U (by rw [← es]; exact heap_alloc_new _ _)
    exact this
set_option maxRecDepth 100000 in
set_option maxHeartbeats 4000000 in
theorem right11_any (K M B q : Int) (v : Value) (l : List St) (w : World) (hl : SReads w v l) (hn : l.length ≤ 140737488351232) :
    Calls Tryd.prog 17 #[.agg #[.int .i64 K, .int .i64 M, .int .i64 B], .agg #[.int .i64 q, v]] w (Tells w (.bool (rightB K M B q l))) := by
  obtain ⟨x, xc, rfl, gl⟩ := id hl
  obtain ⟨ha, hb, hc, hfz, hB0, hs⟩ := three_boxes w #[.int .i64 K, .int .i64 M, .int .i64 B] #[.int .i64 q, .slice x l.length xc] #[.bool false] 23 26 4 _ rfl
  have hl1 := hl.below hB0
  have cO := ordered_any K M B q (.slice x l.length xc) l _ hl1 (by omega)
  have a0 := ha 0
  have a1 := ha 1
  have a2 := ha 2
  have b0 := hb 0
  have b1 := hb 1
  have r0 := hc 0
  have rf := hfz 0
  clear hl1 ha hb hc hfz
  simp only [List.getElem?_toArray, List.getElem?_cons_zero, List.getElem?_cons_succ] at a0 a1 a2 b0 b1 r0
  refine callsIn_wide.1 (callsIn_of_wp_marks (n := 6) Tryd.func17 rfl trivial ?_ rfl)
  simp only [Tryd.ntmps17, List.size_toArray, List.length_cons, List.length_nil, Nat.reduceAdd, Nat.reduceSub, Array.replicate_succ, Array.replicate_zero, List.push_toArray, List.append_toArray, List.nil_append, List.cons_append]
  gi_wp2_with (fail)
  refine ⟨trivial, (callsIn_wide.2 cO).mono ?_⟩
  rintro e w1 ⟨rfl, bw⟩
  have hB1 := below_c hB0 bw
  obtain ⟨g, hg⟩ : ∃ g, w.heap.size = g := ⟨_, rfl⟩
  rw [hg] at a0 a1 a2 b0 b1 r0 rf hs
  replace a0 := (bw.cell (p := ⟨g, 0, none⟩) (by show g < _; omega)).trans a0
  replace b1 := (bw.cell (p := ⟨g + 1, 1, none⟩) (by show g + 1 < _; omega)).trans b1
  replace b0 := (bw.cell (p := ⟨g + 1, 0, none⟩) (by show g + 1 < _; omega)).trans b0
  replace r0 := (bw.cell (p := ⟨g + 1 + 1, 0, none⟩) hs).trans r0
  replace rf := (bw.frozen (p := ⟨g + 1 + 1, 0, none⟩) hs).trans rf
  replace hs := Nat.lt_of_lt_of_le hs bw.size
  clear bw hB0 cO a1 a2
  rw [hg]
  cases hO : ordB K M B q l with
  | false =>
    have hz : Hid (rightB K M B q l = false) := Lib.hid (by simp [rightB, hO])
    gi_wp2_with (fail)
    have hc5 := World.cell?_setCell_same' w1 ⟨g + 1 + 1, 0, none⟩ (.bool false) (by rw [r0]; rfl)
    have hB2 := hB1.setCell (p := ⟨g + 1 + 1, 0, none⟩) (by show w.heap.size ≤ g + 1 + 1; omega) (.bool false)
    refine ⟨.bool false, ?_, by rw [hz.out], hB2⟩
    simp [results, Tryd.f17, go_sem, hc5]
  | true =>
    have hr1 : Hid ((∀ i (hi : i < l.length), ((l[i].d.length : Int) == K) = true) → (∀ t ∈ allT l, (t.size : Int) = 120) → rightB K M B q l = true) := Lib.hid fun h1 h2 => by
      unfold rightB
      rw [hO, Bool.true_and, List.all_eq_true]
      intro s hs
      obtain ⟨i, hi, rfl⟩ := List.getElem_of_mem hs
      unfold stB
      rw [h1 i hi, Bool.true_and]
      exact txtB_yes fun j hj => h2 _ (List.mem_flatMap.2 ⟨_, List.getElem_mem hi, List.getElem_mem hj⟩)
    have hr2 : Hid (∀ i (hi : i < l.length), ((l[i].d.length : Int) == K) = false → rightB K M B q l = false) := Lib.hid fun i hi h => by
      unfold rightB
      rw [Bool.and_eq_false_iff]; right
      rw [List.all_eq_false]
      exact ⟨_, List.getElem_mem hi, by rw [stB_len h]; simp⟩
    have hr3 : Hid (∀ t ∈ allT l, ¬ (t.size : Int) = 120 → rightB K M B q l = false) := Lib.hid fun t ht h => by
      obtain ⟨s, hs, hts⟩ := List.mem_flatMap.1 ht
      unfold rightB
      rw [Bool.and_eq_false_iff]; right
      rw [List.all_eq_false]
      refine ⟨s, hs, ?_⟩
      obtain ⟨j, hj, rfl⟩ := List.getElem_of_mem hts
      rw [stB_txt (txtB_no hj h)]; simp
    replace hg := Lib.hid hg
    gi_wp2_with (fail)
    gi_loopw [15] (fun i W => ∃ k : Nat, k ≤ l.length ∧ i = .int .i64 (k : Int) ∧ Below w1.heap.size w1 W ∧ Hid (∀ i (hi : i < l.length), i < k → ((l[i].d.length : Int) == K) = true)) (fun i _ => l.length - (intOf i).toNat)
    case atStart => exact ⟨0, Nat.zero_le _, rfl, Below.refl _ _, Lib.hid fun i hi h => absurd h (Nat.not_lt_zero _)⟩
    case round =>
      obtain ⟨k, hk, rfl, hB, hall⟩ := hrel
      rename World => wr
      have c0 := (hB.cell (p := ⟨g, 0, none⟩) (by show g < w1.heap.size; omega)).trans a0
      by_cases hlt : k < l.length
      · have y1 : (k : Int) < (l.length : Int) := by omega
        obtain ⟨p1, o1, rfl, A1, K1⟩ := gl k hlt
        have Bw := below_c hB1 hB
        have L1 := A1.below Bw A1.lt
        have K2 := K1.below Bw
        have hr2k := hr2.out k hlt
        have hallk : ((l[k].d.length : Int) == K) = true → Hid (∀ i (hi : i < l.length), i < k + 1 → ((l[i].d.length : Int) == K) = true) := fun h => Lib.hid fun i hi hik => by
          by_cases e : i = k
          · subst e; exact h
          · exact hall.out i hi (by omega)
        clear A1 K1
        generalize l[k] = s at *
        obtain ⟨m, d, u⟩ := s
        obtain ⟨ua, uc, ev⟩ := K2.r.isSlice
        rw [List.length_map] at ev
        simp only at ev
        subst ev
        have ⟨f0, f1, fl⟩ := L1
        simp only at f0 f1 hr2k hallk
        have bk := (Below.refl wr.heap.size wr).alloc (Nat.le_refl _) (.cells #[.int .i64 m, .slice ua d.length uc] 52)
        have e1 := World.cell?_alloc_mark wr #[.int .i64 m, .slice ua d.length uc] 52 (0, 0) 1
        simp only [List.getElem?_toArray, List.getElem?_cons_zero, List.getElem?_cons_succ] at e1
        have hgw : g < wr.heap.size := by have := hB.size; omega
        have c0' := (bk.cell (p := ⟨g, 0, none⟩) hgw).trans c0
        have B2 := below_c hB bk
        have rq := (B2.cell (p := ⟨g + 1 + 1, 0, none⟩) hs).trans r0
        have rz := (B2.frozen (p := ⟨g + 1 + 1, 0, none⟩) hs).trans rf
        cases hx : ((d.length : Int) == K) with
        | true =>
          have hall' := hallk hx
          clear hr2k hallk
          gi_wp2_with (fail)
          go_roundw
          case rel => exact ⟨k + 1, by omega, by simp, B2, hall'⟩
          case measure => simp [intOf]; omega
        | false =>
          have hz := Lib.hid (hr2k hx)
          clear hr2k hallk
          gi_wp2_with (fail)
          have hc5 := World.cell?_setCell_same' (wr.alloc (.cells #[.int .i64 m, .slice ua d.length uc] 52)) ⟨g + 1 + 1, 0, none⟩ (.bool false) (by rw [rq]; rfl)
          have hB3 := (below_c hB1 B2).setCell (p := ⟨g + 1 + 1, 0, none⟩) (by show w.heap.size ≤ g + 1 + 1; have := hg.out; omega) (.bool false)
          refine ⟨.bool false, ?_, by rw [hz.out], hB3⟩
          simp [results, Tryd.f17, go_sem, hc5]
      · obtain rfl : k = l.length := by omega
        have d0 := (hB.cell (p := ⟨g + 1, 0, none⟩) (by show g + 1 < w1.heap.size; omega)).trans b0
        have d1 := (hB.cell (p := ⟨g + 1, 1, none⟩) (by show g + 1 < w1.heap.size; omega)).trans b1
        gi_wp2_with (fail)
        refine ⟨trivial, (callsIn_wide.2 (contents_in q (.slice x l.length xc) wr)).mono ?_⟩
        rintro e w3 ⟨rfl, hw3⟩
        have Bw := below_c hB1 hB
        have B3 : Below w.heap.size w w3 := by rw [hw3]; exact Bw.alloc Bw.size _
        have s3 : w3.heap.size = wr.heap.size + 1 := by rw [hw3]; simp
        have hwr := hB.size
        have cB : w3.cell? ⟨wr.heap.size, 1, none⟩ = some (.slice x l.length xc) := by rw [hw3, World.cell?_alloc_mark]; rfl
        have q0 : w3.cell? ⟨g + 1 + 1, 0, none⟩ = some (.bool false) := by rw [hw3]; exact cell_alloc_l _ ((hB.cell (p := ⟨g + 1 + 1, 0, none⟩) hs).trans r0)
        have qf : w3.frozen? ⟨g + 1 + 1, 0, none⟩ = false := by rw [hw3]; exact frozen_alloc_l _ ((hB.cell (p := ⟨g + 1 + 1, 0, none⟩) hs).trans r0) ((hB.frozen (p := ⟨g + 1 + 1, 0, none⟩) hs).trans rf)
        have hgw : w.heap.size ≤ g + 1 + 1 := by have := hg.out; omega
        have hr1' := hr1.out (fun i hi => hall.out i hi hi)
        replace hr1' := Lib.hid hr1'
        have hws := B3.size
        clear hw3 a0 b0 b1 r0 rf c0 d0 d1 hall hr2 hr1
        gi_wp2_with (fail)
        refine wpIn_rangeFunc_ownF rfl (by decide) (gf := 46) (lb := #[.pointer (some ⟨wr.heap.size, 0, none⟩)]) rfl trivial (enters_of Tryd.func46 (by kernel_rfl) rfl)
          (contents_stops .wide (6 - 1) trivial rfl (by decide) wr.heap.size x xc l w hl hn w3 (by omega) B3 cB) belowK_t (belowK_b hws) (Below.refl _ _) (fun _ => rfl)
          (fun pre W => ((∀ t ∈ pre, (t.size : Int) = 120) ∧ W.cell? ⟨g + 1 + 1, 0, none⟩ = some (.bool false) ∧ W.frozen? ⟨g + 1 + 1, 0, none⟩ = false) ∧ Below w.heap.size w W)
          (fun c pre W => (c = .ret ∧ (∃ t ∈ pre, ¬ (t.size : Int) = 120) ∧ W.cell? ⟨g + 1 + 1, 0, none⟩ = some (.bool false)) ∧ Below w.heap.size w W)
          (OwnFrom.and (Own.from (fun s A B row hs hg hr => ⟨hs.1, cell_kept hs.2.1 hg hr, (frozen_kept hs.2.1 hg hr).trans hs.2.2⟩) _) (ownFrom_below (Nat.le_refl _) hws))
          (fun c => OwnFrom.and (Own.from (fun s A B row hs hg hr => ⟨hs.1, hs.2.1, cell_kept hs.2.2 hg hr⟩) _) (ownFrom_below (Nat.le_refl _) hws))
          ⟨⟨(fun t ht => by cases ht), q0, qf⟩, B3⟩ ?a1 ?assign ?body ?done ?stop
        case assign =>
          intro l x W K hK
          gi_wp2
          exact hK
        case body =>
          rintro ll pre t W ⟨⟨hp, hcr, hfr⟩, hB⟩ _
          by_cases ht : (t.size : Int) = 120
          · have t1 : ((t.size : Int) == 120) = true := by rw [ht]; rfl
            gi_wp2
            exact ⟨KeepsOthers.refl _, Below.refl _ _, ⟨fun y hy => (List.mem_append.1 hy).elim (hp y) (fun e => by simp at e; subst e; exact ht), hcr, hfr⟩, hB⟩
          · have t1 : ((t.size : Int) == 120) = false := beq_eq_false_iff_ne.2 ht
            gi_wp2
            exact ⟨KeepsOthers.setCell _ _ _, ⟨rfl, ⟨t, List.mem_append.2 (.inr (by simp)), ht⟩, World.cell?_setCell_same' _ _ _ (by rw [hcr]; rfl)⟩, hB.setCell (p := ⟨g + 1 + 1, 0, none⟩) hgw _⟩
        case done =>
          rintro D ys W hD rfl ⟨⟨hne, hcr, hfr⟩, hB⟩ hK
          gi_wp2
          have hK' := (KeepsOthers.setCell W ⟨g + 1 + 1, 0, none⟩ (.bool true)).same D _ hK rfl
          refine ⟨by simp, .inl ⟨_, _, rfl, run_takeDeferred hK', ?_⟩⟩
          have hc5 := cell_kept (World.cell?_setCell_same' W ⟨g + 1 + 1, 0, none⟩ (.bool true) (by rw [hcr]; rfl)) (grownBy_putObj' _ D (.deferred none)) (fun r e => by cases e; exact ⟨_, hK', rfl⟩)
          refine ⟨.bool true, ?_, by rw [hr1'.out hne], (hB.setCell (p := ⟨g + 1 + 1, 0, none⟩) hgw _).trans (belowK_b (w := w) (Nat.le_refl _) _ D _ _ (by omega) hK' rfl rfl)⟩
          simp [results, Tryd.f17, go_sem, hc5]
        case stop =>
          rintro D c pre W hD hpre ⟨⟨rfl, ⟨t, htp, ht⟩, hcr⟩, hB⟩ hK
          gi_wp2
          refine ⟨by simp, .inl ⟨_, _, rfl, run_takeDeferred hK, ?_⟩⟩
          have hc5 := cell_kept hcr (grownBy_putObj' _ D (.deferred none)) (fun r e => by cases e; exact ⟨_, hK, rfl⟩)
          refine ⟨.bool false, ?_, by rw [hr3.out t (hpre.subset htp) ht], hB.trans (belowK_b (w := w) (Nat.le_refl _) W D _ _ (by omega) hK rfl rfl)⟩
          simp [results, Tryd.f17, go_sem, hc5]
end
end Go.Proofs.YtdbjfofnkijmoaaDoor
