/- trie: the entries of a block that is a node. -/
import Derived.Test.YtlbjfigdocbffaaTriPut
namespace Go.Proofs.Ytlbjfigdocbffaa
open Go.RowKit
set_option linter.unusedVariables false
set_option linter.unusedSimpArgs false

theorem nd_idx (e : Nat → Nat) (k : Nat) (hk : k < 16) (W : World) : (Instr.index 91 (.agg (ndL e).toArray) (.int .i64 (k : Int))).run Try.prog W = .ok (.int .u8 ((e k : Nat) : Int)) W := by
  have hk' : (k : Int) < 16 := by omega
  have e1 : (ndL e)[k]? = some (.int .u8 ((e k : Nat) : Int)) := ndL_get e k hk
  have hs : (sizeOf 5).run Try.prog W = .ok 1 W := by kernel_rfl
  have ha : (isAgg 5).run Try.prog W = .ok false W := by kernel_rfl
  simp [Instr.index, run_underlying nd_under, asIntOf, part, hs, ha, hk', e1]
  intro hx; omega
theorem ntext_list (e : Nat → Nat) (i : Nat) (hi : i < 16) (he : e i ≤ 255) : ((ntext e).extract 0 16).data.toList.getD i 0 = UInt8.ofNat (e i) := by
  have h1 : ((ntext e).extract 0 16).data.toList = ((ntext e).data.toList.take 16) := by simp [ByteArray.data_extract, List.drop_take]
  have h2 : (ntext e).data.toList = (List.range 120).map fun i => if i < 16 then UInt8.ofNat (e i) else 0 := rfl
  rw [h1, h2, List.getD_eq_getElem?_getD, List.getElem?_take, if_pos hi, List.getElem?_map, List.getElem?_range (by omega)]
  simp [hi]
theorem n16_size (e : Nat → Nat) : ((ntext e).extract 0 16).size = 16 := by simp only [ByteArray.size_extract, ntext_size]; omega
theorem ba_len (s : ByteArray) : s.data.toList.length = s.size := Array.length_toList
theorem MRow.nd {w : World} {b K : Nat} {e : Nat → Nat} (he : ∀ i, i < 16 → e i ≤ 255) (h : MRow w b K ((ntext e).extract 0 16).data.toList) : (Instr.loadAt 91 (.pointer (some ⟨b, 0, none⟩))).run Try.prog w = .ok (.agg (ndL e).toArray) w :=
  nd_load e fun j hj => by
    have hl : ((ntext e).extract 0 16).data.toList.length = 16 := by rw [ba_len, n16_size]
    rw [Nat.zero_add, h.cell (by omega), ndL_get e j hj, ntext_list e j hj (he j hj), UInt8.toNat_ofNat', Nat.mod_eq_of_lt (by have := he j hj; omega)]
/-- A node is stored into a block of its own. -/
theorem nd_store {w : World} {b : Nat} {cur : Array Value} (h : w.heap[b]? = some (.cells cur 91 (0, 0))) (hc : cur.size = 16) (e : Nat → Nat) :
    (storeCells ⟨b, 0, none⟩ (ndL e) 0).run Try.prog w = .ok () (w.setRow b (ndL e).toArray) := by
  have := run_storeCells_at Try.prog b 0 91 (ndL e) 0 cur w h (by rw [ndL_len, hc]; omega) (ndL_one e)
  simp only [Nat.zero_add, List.take_zero, List.nil_append] at this
  rw [List.drop_of_length_le (by rw [ndL_len]; simp [hc]), List.append_nil] at this
  exact this
theorem setRow_nd {w : World} {b : Nat} {cur : Array Value} (h : w.heap[b]? = some (.cells cur 91 (0, 0))) (e : Nat → Nat) : (w.setRow b (ndL e).toArray).heap[b]? = some (.cells (ndL e).toArray 91 (0, 0)) := setRow_heap w b _ _ _ _ h
theorem nd_cells {w : World} {b : Nat} {e : Nat → Nat} (h : w.heap[b]? = some (.cells (ndL e).toArray 91 (0, 0))) : (Instr.loadAt 91 (.pointer (some ⟨b, 0, none⟩))).run Try.prog w = .ok (.agg (ndL e).toArray) w :=
  nd_load e fun j hj => by simp [World.cell?, h]
def nd0 : Array Value := #[.int .u8 0, .int .u8 0, .int .u8 0, .int .u8 0, .int .u8 0, .int .u8 0, .int .u8 0, .int .u8 0, .int .u8 0, .int .u8 0, .int .u8 0, .int .u8 0, .int .u8 0, .int .u8 0, .int .u8 0, .int .u8 0]
theorem nd0_eq : nd0 = (ndL fun _ => 0).toArray := by rfl
/-- What an entry may be. -/
def Ents (n : Nat) (C : Nat → Nat) (e : Nat → Nat) : Prop := ∀ i, i < 16 → e i ≠ 0 → 3 ≤ e i ∧ e i < n ∧ 0 < C (e i)
theorem cntd_true {n : Nat} {C : Nat → Nat} {i : Nat} (h3 : 3 ≤ i) (hi : i < n) (hc : 0 < C i) : cntdB n C i = true := by
  unfold cntdB cntV
  rw [if_pos ⟨by omega, by omega⟩]
  apply decide_eq_true
  exact ⟨by omega, by simpa using hc⟩
def GivesN (w : World) (e : Nat → Nat) (x : Ending) (w' : World) : Prop := x = .returned (.tuple #[.agg (ndL e).toArray, .int .i64 0]) ∧ Below w.heap.size w w'
theorem res_node {tm : Array Value} {W : World} {b : Nat} {e : Nat → Nat} {q : Int} (h : W.heap[b]? = some (.cells (ndL e).toArray 91 (0, 0))) (h2 : tm.getD 4 undef = .pointer (some ⟨b, 0, none⟩)) (h3 : tm.getD 5 undef = .int .i64 q) :
    (results Try.f42 tm).run Try.prog W = .ok (.tuple #[.agg (ndL e).toArray, .int .i64 q]) W := by
  have h2' : tm[4]?.getD undef = .pointer (some ⟨b, 0, none⟩) := by simpa using h2
  have h3' : tm[5]?.getD undef = .int .i64 q := by simpa using h3
  have hl := nd_cells h
  have hv : (loadVar 91 ⟨b, 0, none⟩).run Try.prog W = .ok (.agg (ndL e).toArray) W := by simpa [Instr.loadAt, Instr.sureAddr, asAddr] using hl
  simp [results, asAddr, hv, Try.results42, h2', h3', hl]
section
variable {w w' : World} {h g m n : Nat} {u : Value} {C : Nat → Nat} {Z : Int → Bool} {F : Int → Value} {X : Nat → ByteArray}
theorem Ents.le {e : Nat → Nat} (h : Ents n C e) (hn : n ≤ 200) : ∀ i, i < 16 → e i ≤ 255 := fun i hi => by
  by_cases h0 : e i = 0
  · omega
  · have := h i hi h0; omega
set_option maxRecDepth 100000 in
set_option maxHeartbeats 2000000 in
theorem node_good (H : HpAt w h g m n u C Z F X) (b : Nat) (h3 : 3 ≤ b) (hb : b < n) (hc : 0 < C b) (e : Nat → Nat) (hx : X b = ntext e) (hk : Ents n C e) :
    Calls Try.prog 42 #[.pointer (some ⟨h, 0, none⟩), .int .i64 (b : Int)] w (GivesN w e) := by
  have he := hk.le H.sm.n200
  obtain ⟨gg, hgg⟩ : ∃ gg, w.heap.size = gg := ⟨_, rfl⟩
  obtain ⟨w1, hw1⟩ : ∃ w1, w1 = w.alloc (.cells nd0 91) := ⟨_, rfl⟩
  have b1 : Below gg w w1 := by rw [hw1]; exact (Below.refl _ _).alloc (by omega) _
  have n1 : w1.heap[gg]? = some (.cells (ndL fun _ => 0).toArray 91 (0, 0)) := by rw [hw1, ← hgg, nd0_eq]; exact heap_alloc_new _ _
  have s1 : w1.heap.size = gg + 1 := by rw [hw1]; simp [hgg]
  have H1 : HpAt w1 h g m n u C Z F X := H.below (by rw [hgg]; exact b1)
  have ch := lent_any H1 b
  rw [cntd_true h3 hb hc] at ch
  have cr := hread_any H1 b hb
  rw [hx] at cr
  have HB := Lib.hid b1
  have HN := Lib.hid n1
  have HS := Lib.hid s1
  have HH := Lib.hid H1
  have HK := Lib.hid hk
  have HE := Lib.hid he
  have hsl : ∀ W, (Instr.slice 9 (.string (ntext e)) none (some (.int .i64 16)) none).run Try.prog W = .ok (.string ((ntext e).extract 0 16)) W := fun W => slice_to_run Try.underlying9 _ 16 16 rfl (by rw [ntext_size]; omega) W
  have hsz : ((ntext e).size : Int) = 120 := by rw [ntext_size]; rfl
  have hgg2 := Lib.hid hgg
  clear hx hk he b1 n1 s1 H1 H h3 hb hc
  go_enter Try.func42, Try.ntmps42
  go_wp2_with (fail)
  rw [show w.alloc (.cells #[.int .u8 0, .int .u8 0, .int .u8 0, .int .u8 0, .int .u8 0, .int .u8 0, .int .u8 0, .int .u8 0, .int .u8 0, .int .u8 0, .int .u8 0, .int .u8 0, .int .u8 0, .int .u8 0, .int .u8 0, .int .u8 0] 91) = w1 from hw1.symm]
  clear hw1 hgg
  refine ch.mono ?_
  rintro x w' ⟨rfl, rfl⟩
  go_wp2_with (fail)
  refine cr.mono ?_
  rintro x w2 ⟨rfl, b2⟩
  obtain ⟨cap0, w3, K, hcv, hM, b3, s3⟩ := MRow.make_run w2 ((ntext e).extract 0 16)
  rw [n16_size] at hcv
  obtain ⟨g2, hg2⟩ : ∃ g2, w2.heap.size = g2 := ⟨_, rfl⟩
  rw [hg2] at hcv hM
  have har : ∀ W, (Instr.arrayAt 91 (.slice (some ⟨g2, 0, none⟩) 16 cap0)).run Try.prog W = .ok (.pointer (some ⟨g2, 0, none⟩)) W := fun W => run_arrayAt _ 91 _ 16 _ 16 cap0 nd_under (Nat.le_refl _)
  have hld := hM.nd HE.out
  obtain ⟨g3, hg3⟩ : ∃ g3, w3.heap.size = g3 := ⟨_, rfl⟩
  have hst : (storeCells ⟨g3, 0, none⟩ (ndL e) 0).run Try.prog (w3.alloc (.cells #[.int .u8 0, .int .u8 0, .int .u8 0, .int .u8 0, .int .u8 0, .int .u8 0, .int .u8 0, .int .u8 0, .int .u8 0, .int .u8 0, .int .u8 0, .int .u8 0, .int .u8 0, .int .u8 0, .int .u8 0, .int .u8 0] 91)) = .ok () (w3.alloc (.cells (ndL e).toArray 91)) := by
    rw [← hg3]; exact run_storeCells_new (P := Try.prog) w3 91 nd0 (ndL e).toArray (nd_isa e) (by rw [nd_size]; rfl) (nd_one e)
  obtain ⟨w4, hw4⟩ : ∃ w4, w4 = w3.alloc (.cells (ndL e).toArray 91) := ⟨_, rfl⟩
  have b4 : Below gg w w4 := by
    rw [hw4]; exact (((HB.out.trans (b2.mono (by rw [HS.out]; omega))).trans (b3.mono (by have := b2.size; rw [HS.out] at this; omega))).alloc (by have := b2.size; have := b3.size; rw [HS.out] at *; omega) _)
  rw [← hw4] at hst
  have n4 : w4.heap[g3]? = some (.cells (ndL e).toArray 91 (0, 0)) := by rw [hw4, ← hg3]; exact heap_alloc_new _ _
  have hs4 : gg + 1 ≤ w4.heap.size ∧ g3 < w4.heap.size := by
    rw [hw4]; have := b2.size; have := b3.size; rw [HS.out] at *; simp; omega
  have m4 : w4.heap[gg]? = some (.cells nd0 91 (0, 0)) := by
    rw [hw4, nd0_eq, ← HN.out]
    have q : Below w1.heap.size w1 (w3.alloc (.cells (ndL e).toArray 91)) := (b2.trans (b3.mono b2.size)).alloc (by have := b2.size; have := b3.size; omega) _
    exact q.block gg (by rw [HS.out]; omega)
  have H4 : Hid (HpAt w4 h g m n u C Z F X) := Lib.hid (HH.out.below (by rw [hw4]; exact ((b2.trans (b3.mono b2.size)).alloc (by have := b2.size; have := b3.size; omega) _)))
  have hld4 := nd_cells n4
  have HN4 := Lib.hid n4
  clear hM b2 b3 s3 hg2 n4 hw4
  have HT := Lib.hid (fun W => text_any e HE.out W)
  have HX := Lib.hid (nd_idx e)
  have HM4 := Lib.hid m4
  have HB4 := Lib.hid b4
  have HS4 := Lib.hid hs4
  have HL4 := Lib.hid hld4
  have hz0 : (Try.prog.info? 91).map (·.size) = some 16 := (zero_of_info nd_zs).2
  clear m4 b4 hs4 cr
  go_wp2_with (first | (with_reducible refine wpList_load_run hld rfl _ rfl rfl ?_) | (with_reducible refine wpList_load_run hld4 rfl _ rfl rfl ?_))
  clear hld hst hcv har hsl
  go_loopw [36, 10] (fun t _ wr => ∃ k : Nat, k ≤ 16 ∧ t = .int .i64 (k : Int) ∧ wr = w4) (fun t _ _ => 16 - (intOf t).toNat)
  case atStart => exact ⟨0, by omega, rfl, rfl⟩
  case round =>
    obtain ⟨k, hk, rfl, rfl⟩ := hrel
    by_cases hlt : k < 16
    · have t1 : (k : Int) < 16 := by omega
      have hix := fun W => HX.out k hlt W
      have hek := HE.out k hlt
      by_cases h0 : e k = 0
      · rw [h0] at hix
        clear h0 hek
        generalize (ndL e).toArray = es at *
        go_wp2_with (fail)
        go_roundw
        case rel => exact ⟨k + 1, by omega, by go_num, by first | rfl | trivial⟩
        case measure => simp [intOf]; omega
      · obtain ⟨q1, q2, q3⟩ := HK.out k hlt h0
        have cl := lent_any H4.out (e k)
        rw [cntd_true q1 q2 q3] at cl
        clear q2 q3
        generalize e k = q at *
        have t2 : ((q : Int) != 0) = true := by rw [bne_iff_ne]; omega
        have t3 : ((q : Int) == 0) = false := by rw [beq_eq_false_iff_ne]; omega
        generalize (ndL e).toArray = es at *
        go_wp2_with (fail)
        refine cl.mono ?_
        rintro x w' ⟨rfl, rfl⟩
        go_wp2_with (fail)
        go_roundw
        case rel => exact ⟨k + 1, by omega, by go_num, by first | rfl | trivial⟩
        case measure => simp [intOf]; omega
    · obtain rfl : k = 16 := by omega
      go_wp2_with (with_reducible refine wpList_load_run hld4 rfl _ rfl rfl ?_)
      refine (HT.out _).mono ?_
      rintro x w5 ⟨rfl, b5⟩
      have m5 : w5.heap[gg]? = some (.cells nd0 91 (0, 0)) := by rw [b5.block gg (by have := HS4.out; omega)]; exact HM4.out
      have hst5 := nd_store m5 rfl e
      have hld5 : (Instr.loadAt 91 (.pointer (some ⟨g3, 0, none⟩))).run Try.prog w5 = .ok (.agg (ndL e).toArray) w5 := nd_cells (by rw [b5.block g3 HS4.out.2]; exact HN4.out)
      have hfin : Below gg w (w5.setRow gg (ndL e).toArray) := below_setRow (HB4.out.trans (b5.mono (by have := HS4.out; omega))) (Nat.le_refl _) _
      have hfc := setRow_nd m5 e
      clear m5 b5
      have htt : ((ntext e).toList == (ntext e).toList) = true := by simp
      generalize ntext e = t at *
      go_wp2_with (with_reducible refine wpList_load_run hld5 rfl _ rfl rfl ?_)
      refine bodyPost_ret (res_node hfc rfl rfl) rfl ⟨rfl, ?_⟩
      rw [hgg2.out]; exact hfin
end
end Go.Proofs.Ytlbjfigdocbffaa
