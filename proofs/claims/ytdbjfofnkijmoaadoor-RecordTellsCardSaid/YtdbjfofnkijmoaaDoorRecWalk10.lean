/- record: Lay. -/
import Derived.Test.YtdbjfofnkijmoaaDoorRecWalk7
import Derived.RangeFuncWrites
import Derived.Maps.AppendAt
import Derived.Test.YtdbjfofnkijmoaaDoorSl3
import Derived.StillTailTactics
namespace Go.Proofs.YtdbjfofnkijmoaaDoor
section
open Go Go.RowKit Go.Shelf
attribute [local go_sem] Oper.semAt_some
set_option linter.unusedVariables false
set_option linter.unusedSimpArgs false

open Rc
theorem Tryd.infoT : (Tryd.prog.info? 9).map (fun i => (i.zero, i.size, i.bytes)) = some (some (.string ⟨#[]⟩), 1, 16) := by kernel_rfl
def GivesT (w : World) (d : List ByteArray) (e : Ending) (w' : World) : Prop := ∃ v, e = .returned v ∧ Own w' w.heap.size 9 v (d.map .string) ∧ Below w.heap.size w w'
set_option maxRecDepth 100000 in
set_option maxHeartbeats 4000000 in
theorem appendSeq_any (Bs : Nat) (x : Option Addr) (xc : Nat) (l : List St) (w0 w : World) (hS : SReads w0 (.slice x l.length xc) l) (hn : l.length ≤ 140737488351232) (hB : Below w0.heap.size w0 w) (hBs : Bs < w.heap.size) (hc : w.cell? ⟨Bs, 1, none⟩ = some (.slice x l.length xc)) (hlen : (allT l).length ≤ 1000) :
    Calls Tryd.prog 45 #[.slice none 0 0, .func (.func 46) #[] #[.pointer (some ⟨Bs, 0, none⟩)]] w (GivesT w (allT l)) := by
  obtain ⟨i0, hi, hz0, hz1, hz2⟩ := info_parts Tryd.infoT
  refine callsIn_wide.1 (callsIn_of_wp_marks (n := 6) Tryd.func45 rfl trivial ?_ rfl)
  simp only [Tryd.ntmps45, List.size_toArray, List.length_cons, List.length_nil, Nat.reduceAdd, Nat.reduceSub, Array.replicate_succ, Array.replicate_zero, List.push_toArray, List.append_toArray, List.nil_append, List.cons_append]
  gi_wp2
  have bO := Boxed.new w 27 (.slice none 0 0)
  have hB0 : Below w.heap.size w (w.alloc (.cells #[.slice none 0 0] 27)) := (Below.refl _ w).alloc (Nat.le_refl _) _
  have hw0 := hB.size
  have cB := cell_alloc_l (.cells #[.slice none 0 0] 27) hc
  refine wpIn_rangeFunc_ownG rfl (by decide) (gf := 46) (lb := #[.pointer (some ⟨Bs, 0, none⟩)]) rfl trivial (enters_of Tryd.func46 (by kernel_rfl) rfl)
    (contents_stops .wide (6 - 1) trivial rfl (by decide) Bs x xc l w0 hS hn (w.alloc (.cells #[.slice none 0 0] 27)) (by simp; omega) (hB.trans (hB0.mono hw0)) cB) belowK_t (belowK_b (by simp; omega)) (Below.refl _ _) (fun _ => rfl)
    (fun pre W => (∃ v, Boxed W w.heap.size 27 v ∧ W.ownsRow w.heap.size 9 1 v pre.length (pre.map Value.string) ∧ True) ∧ Below w.heap.size w W)
    (fun _ _ _ => False)
    (OwnFrom.and (Own.from (holdsRow_own w.heap.size w.heap.size 27 9 1 (fun pre : List ByteArray => pre.length) (fun pre => pre.map Value.string) (fun pre v => True)) _) (ownFrom_below (Nat.le_refl _) (by simp)))
    (fun _ _ _ _ _ hs _ _ => hs)
    ⟨⟨_, bO, World.ownsRow_nil _ _ _ _, trivial⟩, hB0⟩ ?a1 ?assign ?body ?done ?stop
  case assign =>
    intro l x W K hK
    gi_wp2
    exact hK
  case body =>
    rintro ll pre t W ⟨⟨v, hv, hrow, _⟩, hB⟩ hlt
    have hc := hv.cell
    have hpl : pre.length < 1000 := by omega
    gi_wp2_with (gi_at_builtin; refine wpListIn_append_own _ rfl _ _ 27 rfl w.heap.size 9 i0 (.string ⟨#[]⟩) 1 16 Tryd.underlying27 hi hz0 hz1 hz2 rfl (by decide) _ _ _ rfl (hrow.alloc _) ⟨W.heap.size, 0, none⟩ 1 1 [.string t] rfl rfl (cell_one_new _ _ _) (by simp [Value.oneCell']) (by unfold maxLen; omega) (by omega) (by have := hB.size; simp; omega) ?_; intro v' w1 hown' hgrow _; obtain ⟨g', cap', rfl⟩ := ownsRow_succ hown'; obtain ⟨hv1, hv2, hr2, hk2, hb2⟩ := hv.appended (by decide) hrow hB.size (Nat.le_refl _) hown' hgrow; have hc1 := hv1.cell; have hf1 := hv1.frozen)
    exact ⟨hk2.from _, hb2.mono hw0, ⟨_, hv2, by simpa using hr2, trivial⟩, hB.trans hb2⟩
  case done =>
    rintro D ys W hD rfl ⟨⟨v, hv, hrow, _⟩, hB⟩ hK
    have hc := hv.cell
    gi_wp2
    refine ⟨by simp, .inl ⟨_, _, rfl, run_takeDeferred hK, ?_⟩⟩
    exact ⟨_, results_tmp rfl _ _ _, v, rfl, ⟨by rw [List.length_map]; exact ownsRow_putObj hrow _ hK rfl⟩, hB.trans (belowK_b (w := w) (Nat.le_refl _) W D _ _ (by simp at hD; omega) hK rfl rfl)⟩
  case stop =>
    rintro D c pre W _ _ h _
    exact h.elim
theorem collect_any (Bs : Nat) (x : Option Addr) (xc : Nat) (l : List St) (w0 w : World) (hS : SReads w0 (.slice x l.length xc) l) (hn : l.length ≤ 140737488351232) (hB : Below w0.heap.size w0 w) (hBs : Bs < w.heap.size) (hc : w.cell? ⟨Bs, 1, none⟩ = some (.slice x l.length xc)) (hlen : (allT l).length ≤ 1000) :
    Calls Tryd.prog 26 #[.func (.func 46) #[] #[.pointer (some ⟨Bs, 0, none⟩)]] w (GivesT w (allT l)) := by
  have hA := appendSeq_any Bs x xc l w0 w hS hn hB hBs hc hlen
  go_enter Tryd.func26, Tryd.ntmps26
  go_wp2_with (fail)
  refine hA.mono ?_
  rintro e w' ⟨v, rfl, ho, hb⟩
  go_wp2_with (fail)
  go_ret
  exact ⟨v, rfl, ho, hb⟩
end
section
open Go.RowKit
set_option linter.unusedVariables false
set_option linter.unusedSimpArgs false

open Rc
theorem numL_size (n : Int) (W : Nat) (h : W ≤ 7) : (numL n (W : Int)).size ≤ 7 := by
  rw [numL]; split
  · rw [lineOf_size, Pk.be_length, Int.toNat_natCast]; exact h
  · exact Nat.zero_le _
/-- The head of k stripes, without the sum. -/
def headTo (q : Int) (l : List St) (k : Nat) : ByteArray := (l.take k).foldl (fun a s => a ++ numL s.n 1) (⟨#[74, 82, 78, 49]⟩ ++ numL q 6 ++ numL (l.length : Int) 1)
theorem headTo_succ (q : Int) (l : List St) {k : Nat} (h : k < l.length) : headTo q l (k + 1) = headTo q l k ++ numL l[k].n 1 := by
  unfold headTo; rw [List.take_succ_eq_append_getElem h, List.foldl_append]; rfl
theorem headTo_size (q : Int) (l : List St) : ∀ {k : Nat}, k ≤ l.length → (headTo q l k).size ≤ 18 + 7 * k
  | 0, _ => by
    have h1 := numL_size q 6 (by decide)
    have h2 := numL_size (l.length : Int) 1 (by decide)
    have e : headTo q l 0 = ⟨#[74, 82, 78, 49]⟩ ++ numL q 6 ++ numL (l.length : Int) 1 := rfl
    rw [e, ByteArray.size_append, ByteArray.size_append]
    have e4 : (⟨#[74, 82, 78, 49]⟩ : ByteArray).size = 4 := rfl
    have h1' : (numL q 6).size ≤ 7 := h1
    have h2' : (numL (l.length : Int) 1).size ≤ 7 := h2
    omega
  | k + 1, h => by
    have ih := headTo_size q l (k := k) (by omega)
    have h2 : (numL l[k].n 1).size ≤ 7 := numL_size l[k].n 1 (by decide)
    rw [headTo_succ q l (by omega), ByteArray.size_append]
    omega
def layS (q : Int) (l : List St) : ByteArray := headTo q l l.length ++ numL ((sumT (allT l) : Nat) : Int) 4
structure RightF (K M B q : Int) (l : List St) : Prop where
  k : 1 ≤ K ∧ K ≤ 4
  n : 1 ≤ l.length ∧ l.length ≤ 16
  d : ∀ s ∈ l, (s.d.length : Int) = K
  z : ∀ s ∈ l, ∀ t ∈ s.d, t.size = 120
theorem right_f {K M B q : Int} {l : List St} (h : rightB K M B q l = true) : RightF K M B q l := by
  unfold rightB ordB at h
  simp only [Bool.and_eq_true, decide_eq_true_eq, List.all_eq_true] at h
  obtain ⟨⟨hg, _, hn, _⟩, hs⟩ := h
  have hk : 1 ≤ K ∧ K ≤ 4 := ⟨(gR_true hg).1, (gR_true hg).2.1⟩
  refine ⟨hk, hn, fun s hm => ?_, fun s hm t ht => ?_⟩
  · have := hs s hm
    unfold stB at this
    simp only [Bool.and_eq_true, beq_iff_eq] at this
    exact this.1
  · have := hs s hm
    unfold stB txtB at this
    simp only [Bool.and_eq_true, beq_iff_eq, List.all_eq_true] at this
    have := this.2 t ht
    omega
theorem cameT_len {K M B q : Int} {l : List St} (h : RightF K M B q l) : ∀ {k : Nat}, k ≤ l.length → (cameT l k).length ≤ 4 * k
  | 0, _ => by simp [cameT_zero]
  | k + 1, hk => by
    have ih := cameT_len h (k := k) (by omega)
    have := h.d _ (List.getElem_mem (show k < l.length by omega))
    have := h.k
    rw [cameT_succ l (by omega), List.length_append]
    omega
def GivesL (w : World) (K M B q : Int) (l : List St) (e : Ending) (w' : World) : Prop :=
  ∃ v, e = .returned (.tuple #[.string (if rightB K M B q l then layS q l else ⟨#[]⟩), v, .int .i64 (if rightB K M B q l then 0 else 110)]) ∧ Own w' w.heap.size 9 v ((if rightB K M B q l then allT l else []).map .string) ∧ Below w.heap.size w w'
set_option maxRecDepth 100000 in
set_option maxHeartbeats 4000000 in
theorem rlay_any (K M B q : Int) (v : Value) (l : List St) (w : World) (hl : SReads w v l) (hn : l.length ≤ 140737488351232) :
    Calls Tryd.prog 11 #[.agg #[.int .i64 K, .int .i64 M, .int .i64 B], .agg #[.int .i64 q, v]] w (GivesL w K M B q l) := by
  obtain ⟨ha, hb, hB0, hs⟩ := two_boxes w #[.int .i64 K, .int .i64 M, .int .i64 B] #[.int .i64 q, v] 23 26 _ rfl
  have cR := rright11_any K M B q v l _ (hl.below hB0) (by omega)
  have a0 := ha 0
  have a1 := ha 1
  have a2 := ha 2
  have b0 := hb 0
  have b1 := hb 1
  obtain ⟨x, xc, rfl, gl⟩ := hl
  clear ha hb
  simp only [List.getElem?_toArray, List.getElem?_cons_zero, List.getElem?_cons_succ] at a0 a1 a2 b0 b1
  go_enter Tryd.func11, Tryd.ntmps11
  go_wp2_with (fail)
  refine cR.mono ?_
  rintro e w1 ⟨rfl, bw⟩
  have B1 := below_c hB0 bw
  replace b0 := (bw.cell (p := ⟨w.heap.size + 1, 0, none⟩) hs).trans b0
  replace b1 := (bw.cell (p := ⟨w.heap.size + 1, 1, none⟩) hs).trans b1
  replace hs := Nat.lt_of_lt_of_le hs bw.size
  clear bw hB0 cR a0 a1 a2
  obtain ⟨g, hg⟩ : ∃ g, w.heap.size = g := ⟨_, rfl⟩
  rw [hg] at b0 b1 hs ⊢
  replace hg := Lib.hid hg
  unfold GivesL
  cases hR : rightB K M B q l with
  | false =>
    go_wp2_with (fail)
    refine bodyPost_ret (results_tmp3 rfl _ _ _) rfl ?_
    exact ⟨_, by rw [hR]; rfl, by rw [hR]; exact Own.nil _ _ _, B1⟩
  | true =>
    have hf := right_f hR
    have hfn := hf.n
    simp only [if_true]
    have cN : ∀ (n k : Int) (W : World), Calls Tryd.prog 28 #[.int .i64 n, .int .i64 k] W fun e w' => e = .returned (.string (numL n k)) ∧ Below W.heap.size W w' := fun n k W => rnumber11_any n k W
    have cM := fun n W => rnumber11_any n 1 W
    have h0 : Hid (headTo q l 0 = ⟨#[74, 82, 78, 49]⟩ ++ numL q 6 ++ numL (l.length : Int) 1) := Lib.hid rfl
    have z0 := headTo_size q l (k := 0) (by omega)
    rw [h0.out] at z0
    have n6 : (numL q 6).size ≤ 7 := numL_size q 6 (by decide)
    have n1 : (numL (l.length : Int) 1).size ≤ 7 := numL_size (l.length : Int) 1 (by decide)
    have za : (⟨#[74, 82, 78, 49]⟩ : ByteArray).size + (numL q 6).size ≤ 300 := by show 4 + _ ≤ 300; omega
    have za' : 4 + (numL q 6).size ≤ 300 := by omega
    have z1 : ((⟨#[74, 82, 78, 49]⟩ : ByteArray) ++ numL q 6).size ≤ 300 := by rw [ByteArray.size_append]; exact za
    have zb : ((⟨#[74, 82, 78, 49]⟩ : ByteArray) ++ numL q 6).size + (numL (l.length : Int) 1).size ≤ 300 := by rw [ByteArray.size_append]; show 4 + _ + _ ≤ 300; omega
    have z0' : ((⟨#[74, 82, 78, 49]⟩ : ByteArray) ++ numL q 6 ++ numL (l.length : Int) 1).size ≤ 300 := by rw [ByteArray.size_append]; exact zb
    go_wp2_with (fail)
    refine wp_region_cls (Below w1.heap.size w1) (by kernel_rfl) (by kernel_rfl) (Below.refl _ _).drew ?_
    intro Z f hne hD hE
    have r0 : ∀ zz, (f zz).cell? ⟨g + 1, 0, none⟩ = some (.int .i64 q) := fun zz => (clsCell hD zz _ _ hs).trans b0
    have r1 : ∀ zz, (f zz).cell? ⟨g + 1, 1, none⟩ = some (.slice x l.length xc) := fun zz => (clsCell hD zz _ _ hs).trans b1
    iterate 10 (go_big_quiet_step (first | (go_at_call 28; with_reducible exact toQB hD hE _ (cN _ _ _))))
    refine wpQuiet_nil ?_
    intro _ hw'
    obtain ⟨zq, hw''⟩ := hw'
    subst hw''
    have B2 := hD zq
    have c1 := r1 zq
    have hs2 := Nat.lt_of_lt_of_le hs B2.size
    rw [← h0.out]
    clear hE r0 r1 hD z0 z1 za za' zb z0' n6 n1 b0 cN
    generalize f zq = w2 at *
    obtain ⟨i0, hi, hz0, hz1, hzb⟩ := info_parts Tryd.infoT
    go_wp2_with (fail)
    go_loopw [8, 9, 10] (fun a b i W => ∃ k : Nat, k ≤ l.length ∧ i = .int .i64 (k : Int) ∧ a = .string (headTo q l k) ∧ Own W w2.heap.size 9 b ((cameT l k).map .string) ∧ Below w2.heap.size w2 W) (fun _ _ i _ => l.length - (intOf i).toNat)
    case atStart => exact ⟨0, Nat.zero_le _, rfl, rfl, Own.nil _ _ _, Below.refl _ _⟩
    case round =>
      obtain ⟨k, hk, rfl, rfl, hO, hB⟩ := hrel
      rename World => W
      have d1 := (hB.cell (p := ⟨g + 1, 1, none⟩) hs2).trans c1
      have hsz := headTo_size q l hk
      by_cases hlt : k < l.length
      · have y1 : (k : Int) < (l.length : Int) := by omega
        have hsz2 := headTo_size q l (k := k + 1) hlt
        rw [headTo_succ q l hlt] at hsz2
        have hhd := Lib.hid (headTo_succ q l hlt)
        have hcm := Lib.hid (cameT_succ l hlt)
        have hcl := cameT_len hf (k := k) hk
        have hd4 := hf.d _ (List.getElem_mem hlt)
        have hk4 := hf.k
        obtain ⟨p1, o1, rfl, A1, K1⟩ := gl k hlt
        have Bw := below_c (below_c B1 B2) hB
        have L1 := A1.below Bw A1.lt
        have K2 := K1.below Bw
        clear A1 K1
        generalize l[k] = s at *
        obtain ⟨n, d, u⟩ := s
        obtain ⟨ua, uc, ev⟩ := K2.r.isSlice
        rw [List.length_map] at ev
        simp only at ev
        subst ev
        have ⟨f0, f1, fl⟩ := L1
        simp only at f0 f1 hsz2 hhd hcm hd4
        have z2 : (numL n 1).size ≤ 7 := numL_size n 1 (by decide)
        have z3 : (headTo q l k).size + (numL n 1).size ≤ 300 := by omega
        have z4 : (headTo q l k ++ numL n 1).size ≤ 300 := by omega
        have cK := cM n W
        go_wp2_with (fail)
        refine cK.mono ?_
        rintro e w5 ⟨rfl, b5⟩
        go_upto_region 10 with (fail)
        rw [← hhd.out]
        have O5 := hO.after b5
        have B5 := hB.trans (b5.mono hB.size)
        have d2 := (b5.cell (p := ⟨g + 1, 1, none⟩) (by show g + 1 < W.heap.size; have := hB.size; omega)).trans d1
        have g1 := (b5.cell (p := ⟨p1, o1 + k * 2 + 1, none⟩) fl).trans f1
        have K5 := K2.below b5
        obtain ⟨v', w6, hap, O6, b6, _⟩ := Own.pushAll (P := Tryd.prog) (T := 27) Tryd.underlying27 hi hz0 hz1 hzb rfl O5 K5.r (fun u hu => by obtain ⟨b, _, rfl⟩ := List.mem_map.1 hu; rfl) B5.size (by simp only [List.length_map]; omega) (by simp only [List.length_map]; omega)
        rw [← List.map_append, ← hcm.out] at O6
        have B6 := B5.trans b6
        clear f0 f1 d1 hO O5 B5 K2 L1 fl cK z2 z3 z4 hsz2 hcl hd4 hk4 Bw
        obtain ⟨hh, hhe⟩ : ∃ h, headTo q l (k + 1) = h := ⟨_, rfl⟩
        rw [hhe]
        replace hhe := Lib.hid hhe
        go_wp2_with (at_builtin; refine wpList_append_run2 hap _ _ rfl rfl rfl rfl rfl ?_)
        go_roundw
        case rel => exact ⟨k + 1, by omega, by go_num, by rw [hhe.out], O6, B6⟩
        case measure => simp [intOf]; omega
      · obtain rfl : k = l.length := by omega
        have y1 : ¬ ((l.length : Int) < (l.length : Int)) := by omega
        rw [cameT_all] at hO
        have Bw := below_c (below_c B1 B2) hB
        have hcl := cameT_len hf (k := l.length) (Nat.le_refl _)
        rw [cameT_all] at hcl
        have cS := rsum11_any _ (allT l) W hO.reads (by omega) (fun t ht => by
          obtain ⟨s, hs, hts⟩ := List.mem_flatMap.1 ht
          have := hf.z s hs t hts; omega)
        have cF := fun W => rnumber11_any ((sumT (allT l) : Nat) : Int) 4 W
        have z2 : (numL ((sumT (allT l) : Nat) : Int) 4).size ≤ 7 := numL_size _ 4 (by decide)
        have z3 : (headTo q l l.length).size + (numL ((sumT (allT l) : Nat) : Int) 4).size ≤ 300 := by omega
        have z4 : (headTo q l l.length ++ numL ((sumT (allT l) : Nat) : Int) 4).size ≤ 300 := by rw [ByteArray.size_append]; omega
        go_wp2_with (fail)
        refine cS.mono ?_
        rintro e w5 ⟨rfl, b5⟩
        go_wp2_with (fail)
        refine (cF _).mono ?_
        rintro e w6 ⟨rfl, b6⟩
        go_wp2_with (fail)
        refine bodyPost_ret (results_tmp3 rfl _ _ _) rfl ?_
        exact ⟨_, by rw [hR]; rfl, by rw [hR]; exact ((hO.after b5).after b6).mono (by have := B1.size; have := B2.size; omega), below_c (below_c Bw b5) b6⟩
end
section
open Go.RowKit
set_option linter.unusedVariables false
set_option linter.unusedSimpArgs false

open Rc
/-- A record's box lies there. -/
def Bxd (U : World) (Bs : Nat) (x : Option Addr) (n xc : Nat) : Prop := U.cell? ⟨Bs, 1, none⟩ = some (.slice x n xc) ∧ Bs < U.heap.size
theorem Bxd.go {U U' : World} {Bs : Nat} {x : Option Addr} {n xc : Nat} (h : Bxd U Bs x n xc) (hb : Below U.heap.size U U') : Bxd U' Bs x n xc := ⟨(hb.cell (p := ⟨Bs, 1, none⟩) h.2).trans h.1, Nat.lt_of_lt_of_le h.2 hb.size⟩
set_option maxRecDepth 100000 in
set_option maxHeartbeats 4000000 in
theorem lay_any (K M B q : Int) (v : Value) (l : List St) (w : World) (hl : SReads w v l) (hn : l.length ≤ 140737488351232) :
    Calls Tryd.prog 10 #[.agg #[.int .i64 K, .int .i64 M, .int .i64 B], .agg #[.int .i64 q, v]] w (GivesL w K M B q l) := by
  obtain ⟨ha, hb, hB0, hs⟩ := two_boxes w #[.int .i64 K, .int .i64 M, .int .i64 B] #[.int .i64 q, v] 23 26 _ rfl
  have cR := right11_any K M B q v l _ (hl.below hB0) hn
  have a0 := ha 0
  have a1 := ha 1
  have a2 := ha 2
  have b0 := hb 0
  have b1 := hb 1
  obtain ⟨x, xc, rfl, gl⟩ := id hl
  clear ha hb
  simp only [List.getElem?_toArray, List.getElem?_cons_zero, List.getElem?_cons_succ] at a0 a1 a2 b0 b1
  go_enter Tryd.func10, Tryd.ntmps10
  go_wp2_with (fail)
  refine cR.mono ?_
  rintro e w1 ⟨rfl, bw⟩
  have B1 := below_c hB0 bw
  replace b0 := (bw.cell (p := ⟨w.heap.size + 1, 0, none⟩) hs).trans b0
  replace b1 := (bw.cell (p := ⟨w.heap.size + 1, 1, none⟩) hs).trans b1
  replace hs := Nat.lt_of_lt_of_le hs bw.size
  clear bw hB0 cR a0 a1 a2
  obtain ⟨g, hg⟩ : ∃ g, w.heap.size = g := ⟨_, rfl⟩
  rw [hg] at b0 b1 hs ⊢
  replace hg := Lib.hid hg
  unfold GivesL
  cases hR : rightB K M B q l with
  | false =>
    go_wp2_with (fail)
    refine bodyPost_ret (results_tmp3 rfl _ _ _) rfl ?_
    exact ⟨_, by rw [hR]; rfl, by rw [hR]; exact Own.nil _ _ _, B1⟩
  | true =>
    have hf := right_f hR
    have hfn := hf.n
    simp only [if_true]
    have cN : ∀ (n k : Int) (W : World), Calls Tryd.prog 24 #[.int .i64 n, .int .i64 k] W fun e w' => e = .returned (.string (numL n k)) ∧ Below W.heap.size W w' := fun n k W => number11_any n k W
    have cM := fun n W => number11_any n 1 W
    have h0 : Hid (headTo q l 0 = ⟨#[74, 82, 78, 49]⟩ ++ numL q 6 ++ numL (l.length : Int) 1) := Lib.hid rfl
    have z0 := headTo_size q l (k := 0) (by omega)
    rw [h0.out] at z0
    have n6 : (numL q 6).size ≤ 7 := numL_size q 6 (by decide)
    have n1 : (numL (l.length : Int) 1).size ≤ 7 := numL_size (l.length : Int) 1 (by decide)
    have za : (⟨#[74, 82, 78, 49]⟩ : ByteArray).size + (numL q 6).size ≤ 300 := by show 4 + _ ≤ 300; omega
    have za' : 4 + (numL q 6).size ≤ 300 := by omega
    have z1 : ((⟨#[74, 82, 78, 49]⟩ : ByteArray) ++ numL q 6).size ≤ 300 := by rw [ByteArray.size_append]; exact za
    have zb : ((⟨#[74, 82, 78, 49]⟩ : ByteArray) ++ numL q 6).size + (numL (l.length : Int) 1).size ≤ 300 := by rw [ByteArray.size_append]; show 4 + _ + _ ≤ 300; omega
    have z0' : ((⟨#[74, 82, 78, 49]⟩ : ByteArray) ++ numL q 6 ++ numL (l.length : Int) 1).size ≤ 300 := by rw [ByteArray.size_append]; exact zb
    go_wp2_with (fail)
    refine wp_region_cls (Below w1.heap.size w1) (by kernel_rfl) (by kernel_rfl) (Below.refl _ _).drew ?_
    intro Z f hne hD hE
    have r0 : ∀ zz, (f zz).cell? ⟨g + 1, 0, none⟩ = some (.int .i64 q) := fun zz => (clsCell hD zz _ _ hs).trans b0
    have r1 : ∀ zz, (f zz).cell? ⟨g + 1, 1, none⟩ = some (.slice x l.length xc) := fun zz => (clsCell hD zz _ _ hs).trans b1
    iterate 10 (go_big_quiet_step (first | (go_at_call 24; with_reducible exact toQB hD hE _ (cN _ _ _))))
    refine wpQuiet_nil ?_
    intro _ hw'
    obtain ⟨zq, hw''⟩ := hw'
    subst hw''
    have B2 := hD zq
    have c1 := r1 zq
    have hs2 := Nat.lt_of_lt_of_le hs B2.size
    rw [← h0.out]
    clear hE r0 r1 hD z0 z1 za za' zb z0' n6 n1 cN
    generalize f zq = w2 at *
    have d0 := (B2.cell (p := ⟨g + 1, 0, none⟩) hs).trans b0
    clear b0
    go_wp2_with (fail)
    go_loopw [7, 26] (fun a i W => ∃ k : Nat, k ≤ l.length ∧ i = .int .i64 (k : Int) ∧ a = .string (headTo q l k) ∧ Below w2.heap.size w2 W) (fun _ i _ => l.length - (intOf i).toNat)
    case atStart => exact ⟨0, Nat.zero_le _, rfl, rfl, Below.refl _ _⟩
    case round =>
      obtain ⟨k, hk, rfl, rfl, hB⟩ := hrel
      rename World => W
      have hsz := headTo_size q l hk
      by_cases hlt : k < l.length
      · have y1 : (k : Int) < (l.length : Int) := by omega
        have hsz2 := headTo_size q l (k := k + 1) hlt
        rw [headTo_succ q l hlt] at hsz2
        have hhd := Lib.hid (headTo_succ q l hlt)
        obtain ⟨p1, o1, rfl, A1, K1⟩ := gl k hlt
        have Bw := below_c (below_c B1 B2) hB
        have L1 := A1.below Bw A1.lt
        have K2 := K1.below Bw
        clear A1 K1
        generalize l[k] = s at *
        obtain ⟨n, d, u⟩ := s
        obtain ⟨ua, uc, ev⟩ := K2.r.isSlice
        rw [List.length_map] at ev
        simp only at ev
        subst ev
        have ⟨f0, f1, fl⟩ := L1
        simp only at f0 f1 hsz2 hhd
        have z2 : (numL n 1).size ≤ 7 := numL_size n 1 (by decide)
        have z3 : (headTo q l k).size + (numL n 1).size ≤ 300 := by omega
        have z4 : (headTo q l k ++ numL n 1).size ≤ 300 := by omega
        have bk := (Below.refl W.heap.size W).alloc (Nat.le_refl _) (.cells #[.int .i64 n, .slice ua d.length uc] 52)
        have cK := cM n (W.alloc (.cells #[.int .i64 n, .slice ua d.length uc] 52))
        have hBk := below_c hB bk
        clear K2
        go_wp2_with (fail)
        refine cK.mono ?_
        rintro e w5 ⟨rfl, b5⟩
        have B5 := below_c hBk b5
        clear f0 f1 fl L1 hBk bk cK Bw
        go_upto_region 8 with (fail)
        rw [← hhd.out]
        obtain ⟨hh, hhe⟩ : ∃ h, headTo q l (k + 1) = h := ⟨_, rfl⟩
        rw [hhe]
        replace hhe := Lib.hid hhe
        go_wp2_with (fail)
        go_roundw
        case rel => exact ⟨k + 1, by omega, by go_num, by rw [hhe.out], B5⟩
        case measure => simp [intOf]; omega
      · obtain rfl : k = l.length := by omega
        have y1 : ¬ ((l.length : Int) < (l.length : Int)) := by omega
        have Bw := below_c (below_c B1 B2) hB
        have c2 := (hB.cell (p := ⟨g + 1, 1, none⟩) hs2).trans c1
        have c3 := (hB.cell (p := ⟨g + 1, 0, none⟩) hs2).trans d0
        have hcl := cameT_len hf (k := l.length) (Nat.le_refl _)
        rw [cameT_all] at hcl
        have z2 : (numL ((sumT (allT l) : Nat) : Int) 4).size ≤ 7 := numL_size _ 4 (by decide)
        have z3 : (headTo q l l.length).size + (numL ((sumT (allT l) : Nat) : Int) 4).size ≤ 300 := by omega
        have z4 : (headTo q l l.length ++ numL ((sumT (allT l) : Nat) : Int) 4).size ≤ 300 := by rw [ByteArray.size_append]; omega
        have hS : Hid (∀ V, Below w2.heap.size w2 V → V.cell? ⟨g + 1, 0, none⟩ = some (.int .i64 q) ∧ V.cell? ⟨g + 1, 1, none⟩ = some (.slice x l.length xc)) := Lib.hid fun V hV => ⟨(hV.cell (p := ⟨g + 1, 0, none⟩) hs2).trans d0, (hV.cell (p := ⟨g + 1, 1, none⟩) hs2).trans c1⟩
        have hl2 := hl.below (below_c B1 B2)
        have hB' : Below w2.heap.size w2 W.drew := hB.drew
        have cC := fun V (hV : Below w2.heap.size w2 V) => checksum_any q (.slice x l.length xc) l V (hl2.below hV) hn
        have cF := fun V => number11_any ((sumT (allT l) : Nat) : Int) 4 V
        have cO := fun V => contents_in q (.slice x l.length xc) V
        have cX := fun Bs V (hV : Below w2.heap.size w2 V) (h : Bxd V Bs x l.length xc) => collect_any Bs x xc l w2 V hl2 hn hV h.2 h.1 (by omega)
        have hws : w.heap.size ≤ w2.heap.size := (below_c B1 B2).size
        have hnew : ∀ V V', Below w2.heap.size w2 V → V' = V.alloc (.cells #[.int .i64 q, .slice x l.length xc] 26) → Below w2.heap.size w2 V' ∧ Bxd V' V.heap.size x l.length xc := fun V V' hV e => by
          subst e
          exact ⟨hV.alloc hV.size _, ⟨by rw [World.cell?_alloc_mark]; rfl, by simp⟩⟩
        have z5 : (headTo q l l.length).size + (numL ((sumT (allT l) : Nat) : Int) 4).size ≤ 9223372036854775807 := by omega
        have hLS : Hid (layS q l = headTo q l l.length ++ numL ((sumT (allT l) : Nat) : Int) 4) := Lib.hid rfl
        clear hsz hk hlt c2 c3 z2 hcl Bw
        generalize headTo q l l.length = HH at *
        generalize numL ((sumT (allT l) : Nat) : Int) 4 = NN at *
        have hadd : ∀ V, (Op.stringOp .add HH NN).run Tryd.prog V = .ok (.string (HH ++ NN)) V := fun V => run_string_add_sum V HH NN z5
        go_wp2_with (fail)
        go_region_held3 (fun V => V.cell? ⟨g + 1, 0, none⟩ = some (.int .i64 q) ∧ V.cell? ⟨g + 1, 1, none⟩ = some (.slice x l.length xc)) (first | exact hS.out _ (by assumption)) (first
          | (go_at_call 25; refine (cC _ (by assumption)).mono ?_; rintro e wa ⟨rfl, ba⟩; have Ba : Below w2.heap.size w2 wa := below_c (by assumption) ba; try (have Xa := Bxd.go (by assumption) ba); try (have Oa := Own.after (by assumption) ba))
          | (go_at_call 24; refine (cF _).mono ?_; rintro e wb ⟨rfl, bb⟩; have Bb : Below w2.heap.size w2 wb := below_c (by assumption) bb; try (have Xb := Bxd.go (by assumption) bb); try (have Ob := Own.after (by assumption) bb))
          | (go_at_call 27; refine (cO _).mono ?_; rintro e wc ⟨rfl, hwc⟩; obtain ⟨Bc, Xc⟩ := hnew _ _ (by assumption) hwc; clear hwc)
          | (go_at_call 26; refine (cX _ _ (by assumption) (by assumption)).mono ?_; rintro e wd ⟨vd, rfl, od, bd⟩; have Bd : Below w2.heap.size w2 wd := below_c (by assumption) bd))
        all_goals
          go_wp2_with (fail)
          refine bodyPost_ret (results_tmp3 rfl _ _ _) rfl ?_
          exact ⟨vd, by rw [hR]; simp only [if_true, hLS.out]; rfl, by rw [hR]; exact Own.mono (by assumption) (by have := Bc.size; omega), below_c (below_c B1 B2) (by assumption)⟩
end
end Go.Proofs.YtdbjfofnkijmoaaDoor
