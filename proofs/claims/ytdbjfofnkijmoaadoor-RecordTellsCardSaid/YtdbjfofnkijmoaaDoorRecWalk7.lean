/- record: numbers; the document's sum; Same. -/
import Derived.Test.YtdbjfofnkijmoaaDoorRecWalk5
import Derived.Test.YtdbjfofnkijmoaaDoorCrcWalk
import Derived.Test.YtdbjfofnkijmoaaDoorCrcRef
import Derived.Test.YtdbjfofnkijmoaaDoorShelf
import Derived.Test.YtdbjfofnkijmoaaDoorPackFill
namespace Go.Proofs.YtdbjfofnkijmoaaDoor
section
open Go Go.RowKit Go.Shelf
attribute [local go_sem] Oper.semAt_some
set_option linter.unusedVariables false
set_option linter.unusedSimpArgs false

open Rc
/-- The state behind some texts. -/
def crcT (l : List ByteArray) : Nat := l.foldl (fun n t => Crc.go n t.data.toList) 4294967295
theorem crcT_snoc (l : List ByteArray) (t : ByteArray) : crcT (l ++ [t]) = Crc.go (crcT l) t.data.toList := by unfold crcT; rw [List.foldl_append]; rfl
theorem crcF_lt : ∀ (l : List ByteArray) (n : Nat), n < 4294967296 → l.foldl (fun n t => Crc.go n t.data.toList) n < 4294967296
  | [], n, h => h
  | t :: r, n, h => crcF_lt r _ (Crc.go_lt h _)
theorem crcT_lt (l : List ByteArray) : crcT l < 4294967296 := crcF_lt l _ (by decide)
def sumT (l : List ByteArray) : Nat := Crc.fin (crcT l)
theorem sumT_lt (l : List ByteArray) : sumT l < 4294967296 := by
  have h := crcT_lt l
  unfold sumT
  rw [fin_sub _ h]; omega
set_option maxRecDepth 100000 in
set_option maxHeartbeats 4000000 in
theorem contents2_in (F : Fence) (n : Nat) (hf : F.fn 46) (hro : F.round = none) (hn : 1 ≤ n) (l Bs B0 : Nat) (x : Option Addr) (xc : Nat) (ss : List St) (w0 : World) (hS : SReads w0 (.slice x ss.length xc) ss) (hss : ss.length ≤ 140737488351232) (J Jx : List {t : ByteArray // t ∈ allT ss} → World → Prop)
    (hY : ∀ pre (t : {t : ByteArray // t ∈ allT ss}) W, J pre W → pre.length < (allT ss).length → YieldAt F (n - 1) Tryd.prog l #[.string t.1] W fun e W' =>
      (e = .returned (.bool true) ∧ J (pre ++ [t]) W' ∧ Below w0.heap.size W W') ∨ (e = .returned (.bool false) ∧ Jx (pre ++ [t]) W'))
    (W : World) (hJ : AbidesFrom B0 J) (hW : Below w0.heap.size w0 W) (hBs : W.cell? ⟨Bs, 1, none⟩ = some (.slice x ss.length xc)) (h0 : J [] W) :
    CallsIn F n Tryd.prog 46 #[.func (.yield l) #[] #[], .pointer (some ⟨Bs, 0, none⟩)] W fun e W' => (∃ v, e = .returned v) ∧
      ((∃ ys : List {t : ByteArray // t ∈ allT ss}, ys.map (·.1) = allT ss ∧ J ys W') ∨ (∃ pre : List {t : ByteArray // t ∈ allT ss}, pre.map (·.1) <+: allT ss ∧ Jx pre W')) := by
  obtain ⟨x', xc', ev, gl⟩ := hS
  obtain ⟨rfl, rfl⟩ : x = x' ∧ xc = xc' := by simpa using ev
  clear ev
  refine callsIn_of_wp Tryd.func46 rfl hf ?_ hro
  simp only [Tryd.ntmps46, List.size_toArray, List.length_cons, List.length_nil, Nat.reduceAdd, Nat.reduceSub, Array.replicate_succ, Array.replicate_zero, List.push_toArray, List.append_toArray, List.nil_append, List.cons_append]
  gi_wp2
  clear hBs
  gi_loopw [10] (fun i wr => ∃ k : Nat, k ≤ ss.length ∧ i = .int .i64 (k : Int) ∧ (∃ ys : List {t : ByteArray // t ∈ allT ss}, ys.map (·.1) = cameT ss k ∧ J ys wr) ∧ Below w0.heap.size w0 wr) (fun i _ => ss.length - (intOf i).toNat)
  case atStart => exact ⟨0, Nat.zero_le _, rfl, ⟨[], rfl, h0⟩, hW⟩
  case round =>
    obtain ⟨k, hk, rfl, ⟨ys, hys, hJs⟩, hB⟩ := hrel
    rename World => wr
    clear h0 hW
    by_cases hlt : k < ss.length
    · have y1 : (k : Int) < (ss.length : Int) := by omega
      obtain ⟨p1, o1, rfl, A1, K1⟩ := gl k hlt
      have L1 := A1.below hB A1.lt
      have K2 := K1.below hB
      have hcs := cameT_succ ss hlt
      have hmem : ∀ i (hi : i < ss[k].d.length), ss[k].d[i] ∈ allT ss := fun i hi => List.mem_flatMap.2 ⟨_, List.getElem_mem hlt, List.getElem_mem hi⟩
      have hcp := fun j => cameT_pre ss (j := j) hlt
      have hcl := fun j => cameT_lt ss (j := j) hlt
      clear A1
      generalize ss[k] = s at *
      obtain ⟨m, d, u⟩ := s
      obtain ⟨ua, uc, ev, gd⟩ := K1.r.items
      simp only at ev
      subst ev
      have ⟨f0, f1, fl⟩ := L1
      simp only at f0 f1 hcs hcp hcl hmem
      have bk := (Below.refl wr.heap.size wr).alloc (Nat.le_refl _) (.cells #[.int .i64 m, .slice ua d.length uc] 52)
      have e1 := World.cell?_alloc_mark wr #[.int .i64 m, .slice ua d.length uc] 52 (0, 0) 1
      simp only [List.getElem?_toArray, List.getElem?_cons_zero, List.getElem?_cons_succ] at e1
      have hJ2 := abides_alloc hJ hJs (.cells #[.int .i64 m, .slice ua d.length uc] 52)
      have B2 := below_c hB bk
      have hdn := K1.n
      simp only at hdn
      gi_wp2
      clear f0 f1 fl L1 K1 K2 bk hJs e1
      generalize wr.alloc (.cells #[.int .i64 m, .slice ua d.length uc] 52) = w2 at *
      gi_loopw [17] (fun j W => ∃ i : Nat, i ≤ d.length ∧ j = .int .i64 (i : Int) ∧ (∃ ys : List {t : ByteArray // t ∈ allT ss}, ys.map (·.1) = cameT ss k ++ d.take i ∧ J ys W) ∧ Below w0.heap.size w0 W) (fun j _ => d.length - (intOf j).toNat)
      case atStart => exact ⟨0, Nat.zero_le _, rfl, ⟨ys, by rw [List.take_zero, List.append_nil]; exact hys, hJ2⟩, B2⟩
      case round =>
        obtain ⟨i, hi, rfl, ⟨zs, hzs, hJi⟩, hW⟩ := hrel
        rename World => W3
        clear hJ2 B2
        by_cases hid : i < d.length
        · have y2 : (i : Int) < (d.length : Int) := by omega
          obtain ⟨p2, o2, rfl, l2, c2⟩ := gd i hid
          have c3 := (hW.cell (p := ⟨p2, o2 + i, none⟩) l2).trans c2
          have hts := List.take_succ_eq_append_getElem hid
          obtain ⟨tt, htt⟩ : ∃ tt : {t : ByteArray // t ∈ allT ss}, tt.1 = d[i] := ⟨⟨d[i], hmem i hid⟩, rfl⟩
          obtain ⟨fn, tmps, assign, body, hy, hR⟩ := hY zs tt W3 hJi (by have h1 := hcl i hid; rw [← hzs, List.length_map] at h1; exact h1)
          have hc3 : (zs ++ [tt]).map (·.1) = cameT ss k ++ d.take (i + 1) := by rw [List.map_append, hzs, hts, ← List.append_assoc]; simp [htt]
          generalize zs ++ [tt] = zs' at *
          rw [htt] at hy
          clear hmem htt
          clear c2 hts
          generalize d[i] = tx at *
          gi_wp2
          refine hR.mono ?_
          rintro e W4 (⟨rfl, hJ3, hk3⟩ | ⟨rfl, hJx3⟩)
          · gi_wp2
            go_roundw
            case rel => exact ⟨i + 1, by omega, by simp, ⟨zs', hc3, hJ3⟩, hW.trans hk3⟩
            case measure => simp [intOf]; omega
          · gi_wp2
            refine bodyPost_ret (results_none rfl _ _ _) rfl ?_
            exact ⟨⟨_, rfl⟩, .inr ⟨zs', by rw [hc3]; exact hcp (i + 1), hJx3⟩⟩
        · obtain rfl : i = d.length := by omega
          rw [List.take_length, ← hcs] at hzs
          gi_wp2
          go_roundw
          case rel => exact ⟨k + 1, by omega, by simp, ⟨zs, hzs, hJi⟩, hW⟩
          case measure => simp [intOf]; omega
    · obtain rfl : k = ss.length := by omega
      rw [cameT_all] at hys
      gi_wp2
      go_end0
      exact ⟨⟨_, rfl⟩, .inl ⟨ys, hys, hJs⟩⟩
theorem contents2_stops (F : Fence) (n : Nat) (hf : F.fn 46) (hro : F.round = none) (hn : 1 ≤ n) (Bs : Nat) (x : Option Addr) (xc : Nat) (ss : List St) (w0 : World) (hS : SReads w0 (.slice x ss.length xc) ss) (hss : ss.length ≤ 140737488351232)
    (w : World) (hBs : Bs < w.heap.size) (hB : Below w0.heap.size w0 w) (hc : w.cell? ⟨Bs, 1, none⟩ = some (.slice x ss.length xc)) :
    SeqStopsK F n Tryd.prog 46 #[.pointer (some ⟨Bs, 0, none⟩)] (fun t : {t : ByteArray // t ∈ allT ss} => #[.string t.1]) (Below w0.heap.size) (fun ys => ys.map (·.1) = allT ss) (fun pre => pre.map (·.1) <+: allT ss) (allT ss).length w := fun l J Jx W hW hJ hJx hY h0 => by
  have hc' := (hW.cell (p := ⟨Bs, 1, none⟩) hBs).trans hc
  exact contents2_in F n hf hro hn l Bs W.heap.size x xc ss w0 hS hss J Jx hY W hJ (hB.trans (hW.mono hB.size)) hc' h0
set_option maxRecDepth 100000 in
set_option maxHeartbeats 4000000 in
theorem checksum_any (q : Int) (v : Value) (l : List St) (w : World) (hl : SReads w v l) (hn : l.length ≤ 140737488351232) :
    Calls Tryd.prog 25 #[.agg #[.int .i64 q, v]] w (Tells w (.int .i64 (sumT (allT l) : Nat))) := by
  obtain ⟨x, xc, rfl, gl⟩ := id hl
  have hz : ∀ t ∈ allT l, t.size ≤ maxLen := fun t ht => by
    obtain ⟨s, hs, hts⟩ := List.mem_flatMap.1 ht
    obtain ⟨i, hi, rfl⟩ := List.getElem_of_mem hs
    obtain ⟨_, _, _, _, K⟩ := gl i hi
    have := K.z t hts
    unfold maxLen; omega
  refine callsIn_wide.1 (callsIn_of_wp_marks (n := 6) Tryd.func25 rfl trivial ?_ rfl)
  simp only [Tryd.ntmps25, List.size_toArray, List.length_cons, List.length_nil, Nat.reduceAdd, Nat.reduceSub, Array.replicate_succ, Array.replicate_zero, List.push_toArray, List.append_toArray, List.nil_append, List.cons_append]
  gi_wp2_with (fail)
  refine ⟨trivial, (callsIn_wide.2 (begin_any _)).mono ?_⟩
  rintro e w' ⟨rfl, rfl⟩
  obtain ⟨ha, hb, hB0, hs⟩ := two_boxes w #[.int .i64 q, .slice x l.length xc] #[.int .u32 4294967295] 26 48 _ rfl
  have a0 := ha 0
  have a1 := ha 1
  have b0 := hb 0
  have bf := frozen_of_row ((w.alloc (.cells #[.int .i64 q, .slice x l.length xc] 26)).alloc (.cells #[.int .u32 4294967295] 48)) (w.heap.size + 1) 0 _ _ (by have := heap_alloc_new (w.alloc (.cells #[.int .i64 q, .slice x l.length xc] 26)) (.cells #[.int .u32 4294967295] 48); simpa using this)
  clear ha hb
  simp only [List.getElem?_toArray, List.getElem?_cons_zero, List.getElem?_cons_succ] at a0 a1 b0
  gi_wp2_with (fail)
  refine ⟨trivial, (callsIn_wide.2 (contents_in q (.slice x l.length xc) _)).mono ?_⟩
  rintro e w3 ⟨rfl, hw3⟩
  obtain ⟨g, hg⟩ : ∃ g, w.heap.size = g := ⟨_, rfl⟩
  generalize (w.alloc (.cells #[.int .i64 q, .slice x l.length xc] 26)).alloc (.cells #[.int .u32 4294967295] 48) = w2 at *
  have B3 : Below w.heap.size w w3 := by rw [hw3]; exact hB0.alloc hB0.size _
  have s3 : w3.heap.size = w2.heap.size + 1 := by rw [hw3]; simp
  have cB : w3.cell? ⟨w2.heap.size, 1, none⟩ = some (.slice x l.length xc) := by rw [hw3, World.cell?_alloc_mark]; rfl
  have q0 : w3.cell? ⟨w.heap.size + 1, 0, none⟩ = some (.int .u32 4294967295) := by rw [hw3]; exact cell_alloc_l _ b0
  have qf : w3.frozen? ⟨w.heap.size + 1, 0, none⟩ = false := by rw [hw3]; exact frozen_alloc_l _ b0 bf
  rw [hg] at q0 qf
  rw [hg]
  replace hg := Lib.hid hg
  have hgw : w.heap.size ≤ g + 1 := by have := hg.out; omega
  have hws := B3.size
  clear hw3 a0 a1 b0 bf
  gi_wp2_with (fail)
  refine wpIn_rangeFunc_ownF rfl (by decide) (gf := 46) (lb := #[.pointer (some ⟨w2.heap.size, 0, none⟩)]) rfl trivial (enters_of Tryd.func46 (by kernel_rfl) rfl)
    (contents2_stops .wide (6 - 1) trivial rfl (by decide) w2.heap.size x xc l w hl hn w3 (by omega) B3 cB) belowK_t (belowK_b hws) (Below.refl _ _) (fun _ => rfl)
    (fun pre W => (W.cell? ⟨g + 1, 0, none⟩ = some (.int .u32 ((crcT (pre.map (·.1)) : Nat) : Int)) ∧ W.frozen? ⟨g + 1, 0, none⟩ = false) ∧ Below w.heap.size w W)
    (fun _ _ _ => False)
    (OwnFrom.and (Own.from (fun s A B row hs hg hr => ⟨cell_kept hs.1 hg hr, (frozen_kept hs.1 hg hr).trans hs.2⟩) _) (ownFrom_below (Nat.le_refl _) hws))
    (fun c _ _ _ _ h _ _ => h)
    ⟨⟨q0, qf⟩, B3⟩ ?a1 ?assign ?body ?done ?stop
  case assign =>
    intro l x W K hK
    gi_wp2
    exact hK
  case body =>
    rintro ll pre t W ⟨⟨hcr, hfr⟩, hB⟩ _
    have hlt := crcT_lt (pre.map (·.1))
    have hsn : crcT ((pre ++ [t]).map (·.1)) = Crc.go (crcT (pre.map (·.1))) t.1.data.toList := by rw [List.map_append]; exact crcT_snoc _ _
    have cG := go_any ((crcT (pre.map (·.1)) : Nat) : Int) t.1 W (by omega) (by omega) (hz _ t.2)
    rw [Int.toNat_natCast] at cG
    generalize crcT (pre.map (·.1)) = c at *
    gi_wp2_with (fail)
    refine ⟨trivial, (CallsIn.inRound ll (callsIn_wide.2 cG)).mono ?_⟩
    rintro e w' ⟨rfl, rfl⟩
    gi_wp2_with (fail)
    exact ⟨KeepsOthers.setCell _ _ _, (Below.refl _ W).setCell (p := ⟨g + 1, 0, none⟩) hgw _, ⟨by rw [hsn]; exact World.cell?_setCell_same' _ _ _ (by rw [hcr]; rfl), by rw [World.frozen?_setCell]; exact hfr⟩, hB.setCell (p := ⟨g + 1, 0, none⟩) hgw _⟩
  case done =>
    rintro D ys W hD hys ⟨⟨hcr, hfr⟩, hB⟩ hK
    replace hys : ys.map (·.1) = allT l := hys
    rw [hys] at hcr
    have hlt := crcT_lt (allT l)
    have cE := end_any ((crcT (allT l) : Nat) : Int) W (by omega) (by omega)
    rw [Int.toNat_natCast] at cE
    have hsl := sumT_lt (allT l)
    have hse : Crc.fin (crcT (allT l)) = sumT (allT l) := rfl
    rw [hse] at cE
    generalize crcT (allT l) = c at *
    generalize sumT (allT l) = sm at *
    clear hse
    gi_wp2_with (fail)
    refine ⟨trivial, (callsIn_wide.2 cE).mono ?_⟩
    rintro e w' ⟨rfl, rfl⟩
    have v1 : IntKind.i64.wrap (sm : Int) = (sm : Int) := IntWalk.i64_in _ (by omega)
    gi_wp2_with (fail)
    refine ⟨by simp, .inl ⟨_, _, rfl, run_takeDeferred hK, ?_⟩⟩
    refine ⟨.int .i64 (sm : Int), ?_, rfl, hB.trans (belowK_b (w := w) (Nat.le_refl _) W D _ _ (by omega) hK rfl rfl)⟩
    simp [results, Tryd.f25, go_sem]
  case stop =>
    rintro D c pre W hD hpre h
    exact h.elim
end
section
open Go.RowKit
set_option linter.unusedVariables false
set_option linter.unusedSimpArgs false

open Rc
theorem number11_any (n width : Int) (w : World) : Calls Tryd.prog 24 #[.int .i64 n, .int .i64 width] w (Tells w (.string (numL n width))) := by
  have hn := fun W => num_any n width W
  generalize numL n width = s at *
  generalize numE n width = m at *
  go_enter Tryd.func24, Tryd.ntmps24
  go_wp2_with (fail)
  refine (hn _).mono ?_
  rintro e w1 ⟨rfl, hb⟩
  go_wp2_with (fail)
  go_ret
  exact ⟨rfl, hb⟩
theorem rnumber11_any (n width : Int) (w : World) : Calls Tryd.prog 28 #[.int .i64 n, .int .i64 width] w (Tells w (.string (numL n width))) := by
  have hn := fun W => rnum_any n width W
  generalize numL n width = s at *
  generalize numE n width = m at *
  go_enter Tryd.func28, Tryd.ntmps28
  go_wp2_with (fail)
  refine (hn _).mono ?_
  rintro e w1 ⟨rfl, hb⟩
  go_wp2_with (fail)
  go_ret
  exact ⟨rfl, hb⟩
set_option maxRecDepth 100000 in
set_option maxHeartbeats 4000000 in
theorem rsum11_any (v : Value) (d : List ByteArray) (w : World) (hd : Reads w v (d.map .string)) (hn : d.length ≤ 140737488355328) (hz : ∀ t ∈ d, t.size ≤ 3000) :
    Calls Tryd.prog 29 #[v] w (Tells w (.int .i64 (sumT d : Nat))) := by
  obtain ⟨a0, ca, rfl, ga⟩ := hd.items
  clear hd
  go_enter Tryd.func29, Tryd.ntmps29
  go_wp2_with (fail)
  refine (rbegin_any _).mono ?_
  rintro e w' ⟨rfl, rfl⟩
  go_wp2_with (fail)
  go_loopw [3, 4] (fun c i wr => ∃ k : Nat, k ≤ d.length ∧ i = .int .i64 (k : Int) ∧ c = .int .u32 ((crcT (d.take k) : Nat) : Int) ∧ Below w.heap.size w wr) (fun _ i _ => d.length - (intOf i).toNat)
  case atStart => exact ⟨0, Nat.zero_le _, rfl, rfl, Below.refl _ _⟩
  case round =>
    obtain ⟨k, hk, rfl, rfl, hB⟩ := hrel
    rename World => wr
    have hc := crcT_lt (d.take k)
    by_cases hlt : k < d.length
    · have y1 : (k : Int) < (d.length : Int) := by omega
      obtain ⟨p1, o1, rfl, l1, c1⟩ := ga k hlt
      have d1 := (hB.cell (p := ⟨p1, o1 + k, none⟩) l1).trans c1
      have hsn : crcT (d.take (k + 1)) = Crc.go (crcT (d.take k)) d[k].data.toList := by rw [List.take_succ_eq_append_getElem hlt, crcT_snoc]
      have cG := rgo_any ((crcT (d.take k) : Nat) : Int) d[k] wr (by omega) (by omega) (hz _ (List.getElem_mem hlt))
      rw [Int.toNat_natCast, ← hsn] at cG
      clear c1 hsn
      generalize d[k] = t at *
      generalize crcT (d.take k) = c at *
      obtain ⟨c2, hc2⟩ : ∃ c2, crcT (d.take (k + 1)) = c2 := ⟨_, rfl⟩
      rw [hc2] at cG
      replace hc2 := Lib.hid hc2
      go_wp2_with (fail)
      refine cG.mono ?_
      rintro e w2 ⟨rfl, b2⟩
      have hB3 := below_c hB b2
      go_wp2_with (fail)
      go_roundw
      case rel => exact ⟨k + 1, by omega, by go_num, by rw [hc2.out], hB3⟩
      case measure => simp [intOf]; omega
    · obtain rfl : k = d.length := by omega
      rw [List.take_length] at hc ⊢
      have y1 : ¬ ((d.length : Int) < (d.length : Int)) := by omega
      have cE := rend_any ((crcT d : Nat) : Int) wr (by omega) (by omega)
      rw [Int.toNat_natCast] at cE
      have hsl := sumT_lt d
      have hse : Crc.fin (crcT d) = sumT d := rfl
      rw [hse] at cE
      generalize crcT d = c at *
      generalize sumT d = sm at *
      clear hse
      have v1 : IntKind.i64.wrap (sm : Int) = (sm : Int) := IntWalk.i64_in _ (by omega)
      go_wp2_with (fail)
      refine cE.mono ?_
      rintro e w2 ⟨rfl, rfl⟩
      go_wp2_with (fail)
      go_ret
      exact ⟨rfl, hB⟩
/-- slices.Equal of texts. -/
theorem eqT_any (v u : Value) (l m : List ByteArray) (w : World) (hl : Reads w v (l.map .string)) (hm : Reads w u (m.map .string)) (h1 : l.length ≤ 140737488355328) (h2 : m.length ≤ 140737488355328) :
    Calls Tryd.prog 38 #[v, u] w (Tells w (.bool (decide (l = m)))) := by
  obtain ⟨a, cap, rfl, cl⟩ := hl.items
  obtain ⟨b, cap', rfl, cm⟩ := hm.items
  clear hl hm
  by_cases hlen : l.length = m.length
  · by_cases h0 : l.length = 0
    · have hq := Tryd.slices_Equal_string_empty a b cap m.length cap' w (by omega)
      rw [h0]
      have e : l = m := (List.eq_nil_of_length_eq_zero h0).trans (List.eq_nil_of_length_eq_zero (by omega)).symm
      refine hq.mono ?_
      rintro e' w' ⟨rfl, rfl⟩
      exact ⟨by rw [decide_eq_true e, decide_eq_true (by omega)], Below.refl _ _⟩
    · obtain ⟨cb, co, rfl, _, _⟩ := cl 0 (by omega)
      obtain ⟨db, do_, rfl, _, _⟩ := cm 0 (by omega)
      have hq := Tryd.slices_Equal_string cb co l.length cap db do_ m.length cap' l m w (Nat.le_refl _) (Nat.le_refl _) (by omega) (by omega)
        (fun j hj => by obtain ⟨_, _, e, _, h⟩ := cl j hj; simp at e; obtain ⟨rfl, rfl⟩ := e; rw [h]; simp [List.getD_eq_getElem?_getD, hj])
        (fun j hj => by obtain ⟨_, _, e, _, h⟩ := cm j hj; simp at e; obtain ⟨rfl, rfl⟩ := e; rw [h]; simp [List.getD_eq_getElem?_getD, hj])
      rw [List.take_length, List.take_length] at hq
      refine hq.mono ?_
      rintro e' w' ⟨rfl, q, rfl⟩
      exact ⟨rfl, belowN (Below.refl _ _) _⟩
  · have hq := Tryd.slices_Equal_string_lens a b l.length cap m.length cap' w hlen
    refine hq.mono ?_
    rintro e' w' ⟨rfl, rfl⟩
    exact ⟨by rw [decide_eq_false (fun e => hlen (by rw [e]))], Below.refl _ _⟩
set_option maxRecDepth 100000 in
set_option maxHeartbeats 4000000 in
theorem same1_any (n m : Int) (c d : List ByteArray) (v u : Value) (w : World) (hv : Reads w v (c.map .string)) (hu : Reads w u (d.map .string)) (h1 : c.length ≤ 140737488355328) (h2 : d.length ≤ 140737488355328) :
    Calls Tryd.prog 37 #[.agg #[.int .i64 n, v], .agg #[.int .i64 m, u]] w (Tells w (.bool (decide (n = m) && decide (c = d)))) := by
  obtain ⟨ha, hb, hB0, hs⟩ := two_boxes w #[.int .i64 n, v] #[.int .i64 m, u] 52 52 _ rfl
  have a0 := ha 0
  have a1 := ha 1
  have b0 := hb 0
  have b1 := hb 1
  have cE := eqT_any v u c d _ (hv.below hB0) (hu.below hB0) h1 h2
  obtain ⟨v1, v2, rfl⟩ := hv.isSlice
  obtain ⟨u1, u2, rfl⟩ := hu.isSlice
  clear ha hb hv hu
  simp only [List.length_map] at cE a1 b1 hB0 ⊢
  simp only [List.getElem?_toArray, List.getElem?_cons_zero, List.getElem?_cons_succ] at a0 a1 b0 b1
  by_cases hnm : n = m
  · subst hnm
    have t0 : (n == n) = true := beq_self_eq_true _
    have hz : Hid ((decide (n = n) && decide (c = d)) = decide (c = d)) := Lib.hid (by simp)
    go_enter Tryd.func37, Tryd.ntmps37
    go_wp2_with (fail)
    refine cE.mono ?_
    rintro e w1 ⟨rfl, hb⟩
    go_wp2_with (fail)
    go_ret
    exact ⟨by rw [hz.out]; rfl, below_c hB0 hb⟩
  · have t0 : (n == m) = false := beq_eq_false_iff_ne.2 hnm
    have hz : Hid ((decide (n = m) && decide (c = d)) = false) := Lib.hid (by simp [hnm])
    go_enter Tryd.func37, Tryd.ntmps37
    go_wp2_with (fail)
    go_ret
    exact ⟨by rw [hz.out]; rfl, hB0⟩
set_option maxRecDepth 100000 in
set_option maxHeartbeats 4000000 in
theorem equalF_any (va vb : Value) (l m : List St) (w : World) (hl : SReads w va l) (hm : SReads w vb m) (hn : l.length ≤ 140737488355328) :
    Calls Tryd.prog 36 #[va, vb, .func (.func 37) #[] #[]] w (Tells w (.bool (decide (l.map (fun s => (s.n, s.d)) = m.map (fun s => (s.n, s.d)))))) := by
  obtain ⟨x, xc, rfl, gl⟩ := hl
  obtain ⟨y, yc, rfl, gm⟩ := hm
  by_cases h2 : l.length = m.length
  · have t1 : (((l.length : Nat) : Int) == ((m.length : Nat) : Int)) = true := by rw [h2]; exact beq_self_eq_true _
    have h2' := Lib.hid h2
    rw [← h2]
    clear h2 t1
    have t1 : (((l.length : Nat) : Int) == ((l.length : Nat) : Int)) = true := beq_self_eq_true _
    go_enter Tryd.func36, Tryd.ntmps36
    go_wp2_with (fail)
    clear t1
    go_loopw [17] (fun i wr => ∃ k : Nat, k ≤ l.length ∧ i = .int .i64 (k : Int) ∧ Below w.heap.size w wr ∧ Hid (∀ j, j < k → (l.map (fun s => (s.n, s.d)))[j]? = (m.map (fun s => (s.n, s.d)))[j]?)) (fun i _ => l.length - (intOf i).toNat)
    case atStart => exact ⟨0, Nat.zero_le _, rfl, Below.refl _ _, Lib.hid fun j hj => absurd hj (Nat.not_lt_zero _)⟩
    case round =>
      obtain ⟨k, hk, rfl, hB, hj⟩ := hrel
      rename World => wr
      by_cases hlt : k < l.length
      · have hltm : k < m.length := by rw [← h2'.out]; exact hlt
        have y1 : (k : Int) < (l.length : Int) := by omega
        obtain ⟨p1, o1, rfl, A1, K1⟩ := gl k hlt
        obtain ⟨p2, o2, rfl, A2, K2⟩ := gm k hltm
        have L1 := A1.below hB A1.lt
        have L2 := A2.below hB A2.lt
        have e1 : (l.map (fun s => (s.n, s.d)))[k]? = some (l[k].n, l[k].d) := by simp [hlt]
        have e2 : (m.map (fun s => (s.n, s.d)))[k]? = some (m[k].n, m[k].d) := by simp [hltm]
        replace K1 := K1.below hB
        replace K2 := K2.below hB
        clear A1 A2
        generalize l[k] = s1 at *
        generalize m[k] = s2 at *
        obtain ⟨n1, d1, v1⟩ := s1
        obtain ⟨n2, d2, v2⟩ := s2
        obtain ⟨ua, uc, ev⟩ := K1.r.isSlice
        rw [List.length_map] at ev
        simp only at ev
        subst ev
        obtain ⟨ub, ud, ev⟩ := K2.r.isSlice
        rw [List.length_map] at ev
        simp only at ev
        subst ev
        have ⟨f0, f1, fl⟩ := L1
        have ⟨g0, g1, gl'⟩ := L2
        simp only at f0 f1 g0 g1 e1 e2
        have bk : Below wr.heap.size wr ((wr.alloc (.cells #[.int .i64 n1, .slice ua d1.length uc] 52)).alloc (.cells #[.int .i64 n2, .slice ub d2.length ud] 52)) := ((Below.refl _ _).alloc (Nat.le_refl _) _).alloc (by simp) _
        have cT := fun W h1 h2 => same1_any n1 n2 d1 d2 (.slice ua d1.length uc) (.slice ub d2.length ud) W h1 h2 K1.n K2.n
        have cT' := cT _ (K1.below bk).r (K2.below bk).r
        have hB2 := below_c hB bk
        obtain ⟨bd, hbd⟩ : ∃ b, (decide (n1 = n2) && decide (d1 = d2)) = b := ⟨_, rfl⟩
        rw [hbd] at cT'
        clear cT
        go_wp2_with (fail)
        refine cT'.mono ?_
        rintro e w2 ⟨rfl, b2⟩
        have hB3 := below_c hB2 b2
        cases bd with
        | false =>
          have hz : Hid (decide (l.map (fun s => (s.n, s.d)) = m.map (fun s => (s.n, s.d))) = false) := Lib.hid (by
            rw [decide_eq_false_iff_not]; intro e
            rw [e, e2] at e1
            simp only [Option.some.injEq, Prod.mk.injEq] at e1
            rw [e1.1, e1.2] at hbd
            simp at hbd)
          go_wp2_with (fail)
          go_ret
          exact ⟨by rw [hz.out]; rfl, hB3⟩
        | true =>
          have hj' : Hid (∀ j, j < k + 1 → (l.map (fun s => (s.n, s.d)))[j]? = (m.map (fun s => (s.n, s.d)))[j]?) := Lib.hid fun j hjk => by
            by_cases e : j = k
            · subst e
              simp only [Bool.and_eq_true, decide_eq_true_eq] at hbd
              rw [e1, e2, hbd.1, hbd.2]
            · exact hj.out j (by omega)
          clear hj e1 e2 hbd
          go_wp2_with (fail)
          go_roundw
          case rel => exact ⟨k + 1, by omega, by go_num, hB3, hj'⟩
          case measure => simp [intOf]; omega
      · have hz : Hid (decide (l.map (fun s => (s.n, s.d)) = m.map (fun s => (s.n, s.d))) = true) := Lib.hid (decide_eq_true (list_ext' (by simpa using h2'.out) fun j hj' => hj.out j (by simp at hj'; omega)))
        have y1 : ¬ ((k : Int) < (l.length : Int)) := by omega
        go_wp2_with (fail)
        go_ret
        exact ⟨by rw [hz.out]; rfl, hB⟩
  · have t1 : (((l.length : Nat) : Int) == ((m.length : Nat) : Int)) = false := by rw [beq_eq_false_iff_ne]; omega
    have hz : Hid (decide (l.map (fun s => (s.n, s.d)) = m.map (fun s => (s.n, s.d))) = false) := Lib.hid (by
      rw [decide_eq_false_iff_not]; intro e
      have := congrArg List.length e
      simp at this; exact h2 this)
    go_enter Tryd.func36, Tryd.ntmps36
    go_wp2_with (fail)
    go_ret
    exact ⟨by rw [hz.out]; rfl, Below.refl _ _⟩
set_option maxRecDepth 100000 in
set_option maxHeartbeats 4000000 in
theorem same11_any (q p : Int) (va vb : Value) (l m : List St) (w : World) (hl : SReads w va l) (hm : SReads w vb m) (hn : l.length ≤ 140737488355328) :
    Calls Tryd.prog 19 #[.agg #[.int .i64 q, va], .agg #[.int .i64 p, vb]] w (Tells w (.bool (sameB q l p m))) := by
  obtain ⟨ha, hb, hB0, hs⟩ := two_boxes w #[.int .i64 q, va] #[.int .i64 p, vb] 26 26 _ rfl
  have a0 := ha 0
  have a1 := ha 1
  have b0 := hb 0
  have b1 := hb 1
  have cE := equalF_any va vb l m _ (hl.below hB0) (hm.below hB0) hn
  obtain ⟨x, xc, rfl, _⟩ := hl
  obtain ⟨y, yc, rfl, _⟩ := hm
  clear ha hb
  simp only [List.getElem?_toArray, List.getElem?_cons_zero, List.getElem?_cons_succ] at a0 a1 b0 b1
  by_cases hqp : q = p
  · subst hqp
    have t0 : (q == q) = true := beq_self_eq_true _
    obtain ⟨bd, hbd⟩ : ∃ b, decide (l.map (fun s => (s.n, s.d)) = m.map (fun s => (s.n, s.d))) = b := ⟨_, rfl⟩
    have hz : Hid (sameB q l q m = bd) := Lib.hid (by unfold sameB; rw [hbd, t0]; rfl)
    rw [hbd] at cE
    clear hbd
    go_enter Tryd.func19, Tryd.ntmps19
    go_wp2_with (fail)
    refine cE.mono ?_
    rintro e w1 ⟨rfl, hb⟩
    go_wp2_with (fail)
    go_ret
    exact ⟨by rw [hz.out]; rfl, below_c hB0 hb⟩
  · have t0 : (q == p) = false := beq_eq_false_iff_ne.2 hqp
    have hz : Hid (sameB q l p m = false) := Lib.hid (by unfold sameB; rw [t0]; rfl)
    go_enter Tryd.func19, Tryd.ntmps19
    go_wp2_with (fail)
    go_ret
    exact ⟨by rw [hz.out]; rfl, hB0⟩
end
end Go.Proofs.YtdbjfofnkijmoaaDoor
