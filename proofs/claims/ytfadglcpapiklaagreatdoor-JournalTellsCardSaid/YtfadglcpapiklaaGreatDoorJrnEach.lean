/- journal: slots.Each over what Put does with one slot. -/
import Derived.Test.YtfadglcpapiklaaGreatDoorJrnLst
namespace Go.Proofs.YtfadglcpapiklaaGreatDoor
open Go.RowKit
set_option linter.unusedVariables false
set_option linter.unusedSimpArgs false
set_option maxRecDepth 100000

section
variable {w w1 : World} {S : Nat → Prop} {k n : Nat} {R : Rk}
set_option maxHeartbeats 2000000 in
theorem each_put1 (kb ib ab bb : Nat) (h : RA w S w1 k n R) (b c : Nat) (hk : ROk n R c) (f : Rk → Int → Rk × Int) (hf : ∀ R x c, ROk n R c → ROk n (f R x).1 (c + b)) (vl : Value) (l : List Int) (hv : Reads w1 vl (l.map (.int .i64))) (hvS : l ≠ [] → ∀ q, vl.ownBlock = some q → ¬ S q) (hl : l.length ≤ 1000000) (hc : c + b * l.length ≤ 1000000000000)
    (hdo : ∀ x ∈ l, ∀ S' R' wr, RA w S' wr k n R' → Stp S S' w1 wr → ROk n R' (1000000000000 - b) → Calls Tryz.prog 46 #[.int .i64 x, .pointer (some ⟨kb, 0, none⟩), .pointer (some ⟨ib, 0, none⟩), .pointer (some ⟨ab, 0, none⟩), .pointer (some ⟨bb, 0, none⟩)] wr (RDoes w S' wr k n (f R' x).1 (.int .i64 (f R' x).2))) :
    Calls Tryz.prog 49 #[vl, .func (.func 46) #[] #[.pointer (some ⟨kb, 0, none⟩), .pointer (some ⟨ib, 0, none⟩), .pointer (some ⟨ab, 0, none⟩), .pointer (some ⟨bb, 0, none⟩)]] w1 (EDoes w S w1 k n (ea f R [] l)) := by
  obtain ⟨va, vc, rfl, hit⟩ := Reads.items hv
  obtain ⟨i2, q1, q2, q3, q4⟩ := info_parts Tryz.infoIc
  have hww : w.heap.size ≤ w1.heap.size := h.b.size
  have HIT : Hid (∀ i (hi : i < l.length), ∃ cb co, va = some ⟨cb, co, none⟩ ∧ ∀ R' v xs wr, ROwn w S w1 k n R' 3 v xs wr → wr.cell? ⟨cb, co + i, none⟩ = some (.int .i64 l[i])) := Lib.hid fun i hi => by
    obtain ⟨cb, co, e1, e2, e3⟩ := hit i hi
    exact ⟨cb, co, e1, fun R' v xs wr hr => (cell_of_heap (hr.keep e2 (hvS (fun z => by rw [z] at hi; exact Nat.not_lt_zero _ hi) cb (by rw [e1]; rfl))) (co + i)).trans e3⟩
  obtain ⟨X, hX⟩ : ∃ X, X = ea f R [] l := ⟨_, rfl⟩
  rw [← hX]
  have HX := Lib.hid hX
  have HD := Lib.hid hdo
  have HN := Lib.hid (ROwn.nil (RNow.start h) 3)
  have HK := Lib.hid hk
  have HF := Lib.hid hf
  clear hX hv hvS hit h hdo hk hf
  go_enter Tryz.func49, Tryz.ntmps49
  go_wp2_with (fail)
  go_loopw [6, 8, 9, 12] (fun v _ _ t wr => ∃ (i : Nat) (R' : Rk) (acc : List Int), i ≤ l.length ∧ t = .int .i64 (i : Int) ∧ X = ea f R' acc (l.drop i) ∧ ROk n R' (c + b * i) ∧ acc.length ≤ i ∧ ROwn w S w1 k n R' 3 v (acc.map (.int .i64)) wr) (fun _ _ _ t _ => l.length - (RowKit.intOf t).toNat)
  case atStart => exact ⟨0, R, [], Nat.zero_le _, rfl, HX.out, HK.out, Nat.le_refl _, HN.out⟩
  case round =>
    clear HX HN HK
    obtain ⟨i, R', acc, hi, rfl, hX, hk, hal, ho⟩ := hrel
    rename World => wr
    by_cases hlt : i < l.length
    · have y1 : (i : Int) < (l.length : Int) := by omega
      obtain ⟨cb, co, rfl, hcell⟩ := HIT.out i hlt
      have hc1 := hcell _ _ _ _ ho
      have hmul : b * (i + 1) ≤ b * l.length := Nat.mul_le_mul_left _ hlt
      have hmul2 : b * (i + 1) = b * i + b := by rw [Nat.mul_add]; omega
      rw [ea_drop f R' acc hlt] at hX
      have hxm0 := List.getElem_mem hlt
      obtain ⟨x, hx⟩ : ∃ x, l[i] = x := ⟨_, rfl⟩
      rw [hx] at hX hc1 hxm0
      clear hx
      have hk12 : ROk n R' (1000000000000 - b) := hk.le (by omega)
      have cx := fun S' hA hs => HD.out x hxm0 S' R' wr hA hs hk12
      have hk2 := HF.out R' x _ hk
      obtain ⟨y, hy⟩ : ∃ y, f R' x = y := ⟨_, rfl⟩
      rw [hy] at cx hX hk2
      have cd := ho.calls cx
      have hHX := Lib.hid hX
      have Hk2 := Lib.hid hk2
      clear hX hcell hk ho cx hk12 hk2 hxm0 hy
      obtain ⟨R2, e2⟩ := y
      by_cases h0 : e2 = 0
      · subst h0
        have hX2 : Hid (X = ea f R2 acc (l.drop (i + 1))) := Lib.hid (by rw [hHX.out, if_pos rfl])
        clear hHX
        go_wp2_with (fail)
        refine cd.mono ?_
        rintro e w3 ⟨rfl, h3⟩
        have H3 := Lib.hid h3
        clear h3 cd hc1
        go_wp2_with (fail)
        go_roundw
        case rel => exact ⟨i + 1, R2, acc, by omega, by go_num, hX2.out, by rw [hmul2, ← Nat.add_assoc]; exact Hk2.out, by omega, H3.out⟩
        case measure => simp [RowKit.intOf]; omega
      · by_cases h80 : e2 = 80
        · subst h80
          have hX2 : Hid (X = ea f R2 (acc ++ [x]) (l.drop (i + 1))) := Lib.hid (by rw [hHX.out, if_neg h0, if_pos rfl])
          clear hHX h0
          go_wp2_with (fail)
          refine cd.mono ?_
          rintro e w3 ⟨rfl, h3⟩
          obtain ⟨v4, w4, hap, h4⟩ := h3.push (P := Tryz.prog) (T := 24) Tryz.underlying24 q1 q2 q3 q4 rfl hww (.int .i64 x) rfl (by rw [List.length_map]; omega) (by rw [List.length_map]; omega)
          have H4 := Lib.hid h4
          clear h3 h4 cd hc1
          go_wp2_with (at_builtin; refine wpList_append_run hap _ _ rfl rfl rfl rfl rfl ?_)
          go_roundw
          case rel => exact ⟨i + 1, R2, acc ++ [x], by omega, by go_num, hX2.out, by rw [hmul2, ← Nat.add_assoc]; exact Hk2.out, by rw [List.length_append]; simp; omega, by rw [List.map_append]; exact H4.out⟩
          case measure => simp [RowKit.intOf]; omega
        · have hX2 : Hid (X = (R2, [], e2)) := Lib.hid (by rw [hHX.out, if_neg h0, if_neg h80])
          clear hHX
          have t1 : (e2 == 0) = false := by rw [beq_eq_false_iff_ne]; exact h0
          have t2 : (e2 == 80) = false := by rw [beq_eq_false_iff_ne]; exact h80
          go_wp2_with (fail)
          refine cd.mono ?_
          rintro e w3 ⟨rfl, h3⟩
          have H3 := Lib.hid (ROwn.nil h3.now 3)
          clear h3 cd hc1
          go_wp2_with (fail)
          go_ret2
          obtain rfl := hX2.out
          exact ⟨_, rfl, H3.out⟩
    · obtain rfl : i = l.length := by omega
      have y1 : ¬ ((l.length : Int) < (l.length : Int)) := by omega
      rw [List.drop_length] at hX
      have hX2 : Hid (X = (R', acc, 0)) := Lib.hid hX
      have H3 := Lib.hid ho
      clear hX ho hk
      go_wp2_with (fail)
      go_ret2
      obtain rfl := hX2.out
      exact ⟨_, rfl, H3.out⟩
set_option maxHeartbeats 2000000 in
theorem each_put2 (kb ib ab bb : Nat) (h : RA w S w1 k n R) (b c : Nat) (hk : ROk n R c) (f : Rk → Int → Rk × Int) (hf : ∀ R x c, ROk n R c → ROk n (f R x).1 (c + b)) (vl : Value) (l : List Int) (hv : Reads w1 vl (l.map (.int .i64))) (hvS : l ≠ [] → ∀ q, vl.ownBlock = some q → ¬ S q) (hl : l.length ≤ 1000000) (hc : c + b * l.length ≤ 1000000000000)
    (hdo : ∀ x ∈ l, ∀ S' R' wr, RA w S' wr k n R' → Stp S S' w1 wr → ROk n R' (1000000000000 - b) → Calls Tryz.prog 48 #[.int .i64 x, .pointer (some ⟨kb, 0, none⟩), .pointer (some ⟨ib, 0, none⟩), .pointer (some ⟨ab, 0, none⟩), .pointer (some ⟨bb, 0, none⟩)] wr (RDoes w S' wr k n (f R' x).1 (.int .i64 (f R' x).2))) :
    Calls Tryz.prog 49 #[vl, .func (.func 48) #[] #[.pointer (some ⟨kb, 0, none⟩), .pointer (some ⟨ib, 0, none⟩), .pointer (some ⟨ab, 0, none⟩), .pointer (some ⟨bb, 0, none⟩)]] w1 (EDoes w S w1 k n (ea f R [] l)) := by
  obtain ⟨va, vc, rfl, hit⟩ := Reads.items hv
  obtain ⟨i2, q1, q2, q3, q4⟩ := info_parts Tryz.infoIc
  have hww : w.heap.size ≤ w1.heap.size := h.b.size
  have HIT : Hid (∀ i (hi : i < l.length), ∃ cb co, va = some ⟨cb, co, none⟩ ∧ ∀ R' v xs wr, ROwn w S w1 k n R' 3 v xs wr → wr.cell? ⟨cb, co + i, none⟩ = some (.int .i64 l[i])) := Lib.hid fun i hi => by
    obtain ⟨cb, co, e1, e2, e3⟩ := hit i hi
    exact ⟨cb, co, e1, fun R' v xs wr hr => (cell_of_heap (hr.keep e2 (hvS (fun z => by rw [z] at hi; exact Nat.not_lt_zero _ hi) cb (by rw [e1]; rfl))) (co + i)).trans e3⟩
  obtain ⟨X, hX⟩ : ∃ X, X = ea f R [] l := ⟨_, rfl⟩
  rw [← hX]
  have HX := Lib.hid hX
  have HD := Lib.hid hdo
  have HN := Lib.hid (ROwn.nil (RNow.start h) 3)
  have HK := Lib.hid hk
  have HF := Lib.hid hf
  clear hX hv hvS hit h hdo hk hf
  go_enter Tryz.func49, Tryz.ntmps49
  go_wp2_with (fail)
  go_loopw [6, 8, 9, 12] (fun v _ _ t wr => ∃ (i : Nat) (R' : Rk) (acc : List Int), i ≤ l.length ∧ t = .int .i64 (i : Int) ∧ X = ea f R' acc (l.drop i) ∧ ROk n R' (c + b * i) ∧ acc.length ≤ i ∧ ROwn w S w1 k n R' 3 v (acc.map (.int .i64)) wr) (fun _ _ _ t _ => l.length - (RowKit.intOf t).toNat)
  case atStart => exact ⟨0, R, [], Nat.zero_le _, rfl, HX.out, HK.out, Nat.le_refl _, HN.out⟩
  case round =>
    clear HX HN HK
    obtain ⟨i, R', acc, hi, rfl, hX, hk, hal, ho⟩ := hrel
    rename World => wr
    by_cases hlt : i < l.length
    · have y1 : (i : Int) < (l.length : Int) := by omega
      obtain ⟨cb, co, rfl, hcell⟩ := HIT.out i hlt
      have hc1 := hcell _ _ _ _ ho
      have hmul : b * (i + 1) ≤ b * l.length := Nat.mul_le_mul_left _ hlt
      have hmul2 : b * (i + 1) = b * i + b := by rw [Nat.mul_add]; omega
      rw [ea_drop f R' acc hlt] at hX
      have hxm0 := List.getElem_mem hlt
      obtain ⟨x, hx⟩ : ∃ x, l[i] = x := ⟨_, rfl⟩
      rw [hx] at hX hc1 hxm0
      clear hx
      have hk12 : ROk n R' (1000000000000 - b) := hk.le (by omega)
      have cx := fun S' hA hs => HD.out x hxm0 S' R' wr hA hs hk12
      have hk2 := HF.out R' x _ hk
      obtain ⟨y, hy⟩ : ∃ y, f R' x = y := ⟨_, rfl⟩
      rw [hy] at cx hX hk2
      have cd := ho.calls cx
      have hHX := Lib.hid hX
      have Hk2 := Lib.hid hk2
      clear hX hcell hk ho cx hk12 hk2 hxm0 hy
      obtain ⟨R2, e2⟩ := y
      by_cases h0 : e2 = 0
      · subst h0
        have hX2 : Hid (X = ea f R2 acc (l.drop (i + 1))) := Lib.hid (by rw [hHX.out, if_pos rfl])
        clear hHX
        go_wp2_with (fail)
        refine cd.mono ?_
        rintro e w3 ⟨rfl, h3⟩
        have H3 := Lib.hid h3
        clear h3 cd hc1
        go_wp2_with (fail)
        go_roundw
        case rel => exact ⟨i + 1, R2, acc, by omega, by go_num, hX2.out, by rw [hmul2, ← Nat.add_assoc]; exact Hk2.out, by omega, H3.out⟩
        case measure => simp [RowKit.intOf]; omega
      · by_cases h80 : e2 = 80
        · subst h80
          have hX2 : Hid (X = ea f R2 (acc ++ [x]) (l.drop (i + 1))) := Lib.hid (by rw [hHX.out, if_neg h0, if_pos rfl])
          clear hHX h0
          go_wp2_with (fail)
          refine cd.mono ?_
          rintro e w3 ⟨rfl, h3⟩
          obtain ⟨v4, w4, hap, h4⟩ := h3.push (P := Tryz.prog) (T := 24) Tryz.underlying24 q1 q2 q3 q4 rfl hww (.int .i64 x) rfl (by rw [List.length_map]; omega) (by rw [List.length_map]; omega)
          have H4 := Lib.hid h4
          clear h3 h4 cd hc1
          go_wp2_with (at_builtin; refine wpList_append_run hap _ _ rfl rfl rfl rfl rfl ?_)
          go_roundw
          case rel => exact ⟨i + 1, R2, acc ++ [x], by omega, by go_num, hX2.out, by rw [hmul2, ← Nat.add_assoc]; exact Hk2.out, by rw [List.length_append]; simp; omega, by rw [List.map_append]; exact H4.out⟩
          case measure => simp [RowKit.intOf]; omega
        · have hX2 : Hid (X = (R2, [], e2)) := Lib.hid (by rw [hHX.out, if_neg h0, if_neg h80])
          clear hHX
          have t1 : (e2 == 0) = false := by rw [beq_eq_false_iff_ne]; exact h0
          have t2 : (e2 == 80) = false := by rw [beq_eq_false_iff_ne]; exact h80
          go_wp2_with (fail)
          refine cd.mono ?_
          rintro e w3 ⟨rfl, h3⟩
          have H3 := Lib.hid (ROwn.nil h3.now 3)
          clear h3 cd hc1
          go_wp2_with (fail)
          go_ret2
          obtain rfl := hX2.out
          exact ⟨_, rfl, H3.out⟩
    · obtain rfl : i = l.length := by omega
      have y1 : ¬ ((l.length : Int) < (l.length : Int)) := by omega
      rw [List.drop_length] at hX
      have hX2 : Hid (X = (R', acc, 0)) := Lib.hid hX
      have H3 := Lib.hid ho
      clear hX ho hk
      go_wp2_with (fail)
      go_ret2
      obtain rfl := hX2.out
      exact ⟨_, rfl, H3.out⟩
end
/-- What the closures of a Put have captured. -/
structure PBx (W : World) (k kb ib ab bb : Nat) (id a : Int) (vb : Value) : Prop where
  k : W.cell? ⟨kb, 0, none⟩ = some (.pointer (some ⟨k, 0, none⟩))
  i : W.cell? ⟨ib, 0, none⟩ = some (.int .i64 id)
  a : W.cell? ⟨ab, 0, none⟩ = some (.int .i64 a)
  b : W.cell? ⟨bb, 0, none⟩ = some vb
section
variable {w wr w' : World} {S : Nat → Prop} {k n : Nat} {R : Rk} {kb ib ab bb : Nat} {id : Int}
set_option maxHeartbeats 2000000 in
/-- The body of a record written to one slot. -/
theorem put1_any (h : RA w S wr k n R) (b : Nat) (hk : ROk n R b) (slot : Int) (a : Nat) (ha : a ≤ 99999) (vb : Value) (ps : List ByteArray) (x : PBx wr k kb ib ab bb id (a : Int) vb) (hb : b + ps.length ≤ 1000000000000) (hv : Reads wr vb (tx ps)) (hvS : ∀ q, vb.ownBlock = some q → ¬ S q) (hf : ∀ p ∈ ps, p.size ≤ 140737488351232) (hl : ps.length ≤ 100000) :
    Calls Tryz.prog 46 #[.int .i64 slot, .pointer (some ⟨kb, 0, none⟩), .pointer (some ⟨ib, 0, none⟩), .pointer (some ⟨ab, 0, none⟩), .pointer (some ⟨bb, 0, none⟩)] wr (RDoes w S wr k n (wsM n id slot R (a + 1) ps).1 (.int .i64 (wsM n id slot R (a + 1) ps).2)) := by
  have cw := sw_any h b hk id slot (a + 1) (by omega) vb ps hb hv hvS hf hl
  rw [show ((a + 1 : Nat) : Int) = (a : Int) + 1 by omega] at cw
  obtain ⟨u, c, hfv⟩ := hv.form
  rw [show (tx ps).length = ps.length from List.length_map ..] at hfv
  subst hfv
  obtain ⟨x1, x2, x3, x4⟩ := x
  generalize wsM n id slot R (a + 1) ps = Y at *
  clear hv hvS hf hk h
  go_enter Tryz.func46, Tryz.ntmps46
  go_wp2_with (fail)
  refine cw.mono ?_
  rintro e w5 ⟨rfl, h5⟩
  have H5 := Lib.hid h5
  clear cw h5 x1 x2 x3 x4
  go_wp2_with (fail)
  go_ret
  exact ⟨rfl, H5.out⟩
set_option maxHeartbeats 2000000 in
/-- The head of a record written to one slot. -/
theorem put2_any (h : RA w S wr k n R) (b : Nat) (hk : ROk n R b) (slot : Int) (a : Nat) (ha : a ≤ 99999) (p : ByteArray) (x : PBx wr k kb ib ab bb id (a : Int) (.string p)) (hb : b + 1 ≤ 1000000000000) (hf : p.size ≤ 140737488351232) :
    Calls Tryz.prog 48 #[.int .i64 slot, .pointer (some ⟨kb, 0, none⟩), .pointer (some ⟨ib, 0, none⟩), .pointer (some ⟨ab, 0, none⟩), .pointer (some ⟨bb, 0, none⟩)] wr (RDoes w S wr k n (wsM n id slot R a [p]).1 (.int .i64 (wsM n id slot R a [p]).2)) := by
  have hbs := build_str p wr
  have hb4 : Below wr.heap.size wr (wr.alloc (.cells #[.string p] 9)) := (Below.refl _ _).alloc (Nat.le_refl _) _
  have hA := h.after hb4
  have cw := sw_any hA b hk id slot a (by omega) (.slice (some ⟨wr.heap.size, 0, none⟩) 1 1) [p] (by simpa using hb) (.inr ⟨wr.heap.size, 0, 1, rfl, by simp, fun i hi => by
    obtain rfl : i = 0 := by simpa using hi
    exact heap_cell (heap_alloc_new _ _) rfl⟩) (fun q hq hS => by
    have e : wr.heap.size = q := by simpa [Value.ownBlock] using hq
    have := h.lt q hS
    omega) (fun y hy => by rw [List.mem_singleton] at hy; rw [hy]; exact hf) (by simp)
  obtain ⟨x1, x2, x3, x4⟩ := x
  have HB := Lib.hid hb4
  generalize wsM n id slot R a [p] = Y at *
  clear hf hk h hA hb4
  go_enter Tryz.func48, Tryz.ntmps48
  go_wp2_with (fail)
  refine cw.mono ?_
  rintro e w5 ⟨rfl, S5, s5, h5⟩
  have H5 := Lib.hid (And.intro ((Stp.quiet HB.out).trans s5) h5)
  clear cw h5 s5 x1 x2 x3 x4 hbs
  go_wp2_with (fail)
  go_ret
  exact ⟨rfl, S5, H5.out.1, H5.out.2⟩
end
end Go.Proofs.YtfadglcpapiklaaGreatDoor
