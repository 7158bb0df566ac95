/- Readers: texts are taken; whatever is asked. -/
import Derived.Test.YtdbjfofnkijmoaaDoorRdNum
namespace Go.Proofs.YtdbjfofnkijmoaaDoor
open Go.RowKit Go.Shelf
set_option linter.unusedVariables false
set_option linter.unusedSimpArgs false
attribute [local go_sem] Oper.semAt_some

theorem KO.grow {w W W' : World} {b : Nat} {row : Option Nat} (hs : KO w b W) (hg : W.grownBy W' row) (hr : ∀ r, row = some r → w.heap.size ≤ r) : KO w b W' := by
  have hb : W'.heap[b]? = W.heap[b]? := hg.block b (Nat.lt_of_lt_of_le hs.lt hs.size) (fun e => by have := hr b e.symm; have := hs.lt; omega)
  exact ⟨fun B' h1 h2 => (hs.keep B' h1 h2).grown hg (Nat.le_trans h2 hs.size) (fun k e => Nat.le_trans h2 (hr k e)),
    fun k hk hne => (hg.block k (Nat.lt_of_lt_of_le hk hs.size) (fun e => by have := hr k e.symm; omega)).trans (hs.oth k hk hne),
    by rw [cell_of_heap hb]; exact hs.c1, by rw [frozen_of_heap hb]; exact hs.f1, hs.lt⟩
theorem Bx.grow {g : Nat} {v : Value} {W W' : World} {row : Option Nat} (hs : Bx g v W) (hg : W.grownBy W' row) (hr : row ≠ some g) : Bx g v W' := by
  have hb : W'.heap[g]? = W.heap[g]? := hg.block g (lt_of_cell hs.c) (fun e => hr e.symm)
  exact ⟨by rw [cell_of_heap hb]; exact hs.c, by rw [frozen_of_heap hb]; exact hs.f⟩
theorem TkAt.grow {b Bn Br k i : Nat} {s : ByteArray} {W W' : World} {row : Option Nat} (hs : TkAt b Bn Br s k i W) (hg : W.grownBy W' row) (h1 : row ≠ some b) (h2 : row ≠ some Br) (h3 : row ≠ some Bn) : TkAt b Bn Br s k i W' := by
  have e1 : W'.heap[b]? = W.heap[b]? := hg.block b (lt_of_cell hs.c) (fun e => h1 e.symm)
  have e2 : W'.heap[Br]? = W.heap[Br]? := hg.block Br (lt_of_cell hs.r) (fun e => h2 e.symm)
  have e3 : W'.heap[Bn]? = W.heap[Bn]? := hg.block Bn (lt_of_cell hs.n) (fun e => h3 e.symm)
  exact ⟨by rw [cell_of_heap e1]; exact hs.c, by rw [frozen_of_heap e1]; exact hs.f, by rw [cell_of_heap e2]; exact hs.r, by rw [cell_of_heap e3]; exact hs.n⟩
theorem TkAt.alloc {b Bn Br k i : Nat} {s : ByteArray} {W : World} (hs : TkAt b Bn Br s k i W) (o : Obj) : TkAt b Bn Br s k i (W.alloc o) := hs.grow (World.grownBy_alloc W o none) (by simp) (by simp) (by simp)
/-- A row of bytes in block G. -/
def OwnB (G : Nat) (l : List UInt8) (c : Nat) (B : Nat) (W : World) : Prop := W.ownsRow B 5 1 (.slice (some ⟨G, 0, none⟩) l.length c) l.length (l.map byteVal)
theorem OwnB.lt {G c B : Nat} {l : List UInt8} {W : World} (h : OwnB G l c B W) : G < W.heap.size := by
  rcases h.2 with ⟨e, _⟩ | ⟨g, cap, cur, e, h1, h2, _⟩
  · cases e
  · cases e; exact (Array.getElem?_eq_some_iff.1 h2).1
theorem OwnB.same {G c B : Nat} {l : List UInt8} {W W' : World} (h : OwnB G l c B W) (hb : W'.heap[G]? = W.heap[G]?) : OwnB G l c B W' := by
  refine ⟨h.1, ?_⟩
  rcases h.2 with h' | ⟨g, cap, cur, e, h1, h2, h3⟩
  · exact .inl h'
  · refine .inr ⟨g, cap, cur, e, h1, ?_, h3⟩
    cases e
    rw [hb]; exact h2
theorem OwnB.grow {G c B : Nat} {l : List UInt8} {W W' : World} {row : Option Nat} (h : OwnB G l c B W) (hg : W.grownBy W' row) (hr : row ≠ some G) : OwnB G l c B W' := h.same (hg.block G h.lt (fun e => hr e.symm))
theorem OwnB.setOther {G c B k o : Nat} {l : List UInt8} {W : World} {v : Value} (h : OwnB G l c B W) (hne : k ≠ G) : OwnB G l c B (W.setCell ⟨k, o, none⟩ v) := h.same (Below.heap_setCell _ _ _ _ (by show G ≠ k; omega))
theorem OwnB.str {G c B : Nat} {l : List UInt8} {W : World} (h : OwnB G l c B W) : (convert 45 9 (.slice (some ⟨G, 0, none⟩) l.length c)).run Tryd.prog W = .ok (.string (lineOf l)) W := by
  refine run_convert_bytes_back (P := Tryd.prog) W 45 9 5 ⟨G, 0, none⟩ c l Tryd.underlying45 Tryd.underlying5 Tryd.underlying9 (fun j hj => ?_)
  have hl : (l.map byteVal).length = l.length := by simp
  have := (Own.mk (by rw [hl]; exact h) : Own W B 5 (.slice (some ⟨G, 0, none⟩) l.length c) (l.map byteVal)).cell (i := j) (by simpa using hj)
  rw [addr_at, Nat.zero_add, this, List.getD_eq_getElem?_getD]
  simp [hj, byteVal]
theorem take_len (s : ByteArray) (k : Nat) (hk : k ≤ s.size) (i : Nat) (hi : i ≤ k) : (s.data.toList.take i).length = i := by
  have h : s.data.toList.length = s.size := by simp
  rw [List.length_take]; omega
theorem ext_take (s : ByteArray) (k : Nat) : lineOf (s.data.toList.take k) = s.extract 0 k := by
  apply Go.WideShapes.bytes_inj
  simp [lineOf, ByteArray.data_extract]
set_option maxRecDepth 100000 in
set_option maxHeartbeats 4000000 in
theorem rdtext_right (b : Nat) (s : ByteArray) (k : Nat) (w : World) (h : RdAt w b s false) (hk : k ≤ s.size) (hs : s.size ≤ 140737488355328) :
    Calls Tryd.prog 52 #[.pointer (some ⟨b, 0, none⟩), .int .i64 (k : Int)] w (Takes w b (.string (s.extract 0 k)) (s.extract k s.size) false) := by
  obtain ⟨i0, hi, hz0, hz1, hz2⟩ := info_parts Tryd.infoB
  have hrd := ready_any b s false (k : Int) true w h
  have hrt : rdy s false (k : Int) true = true := by unfold rdy; rw [decide_eq_true (by omega)]; rfl
  rw [hrt] at hrd
  have t1 : decide (0 ≤ (k : Int)) = true := by rw [decide_eq_true_eq]; omega
  clear hrt
  refine callsIn_wide.1 (callsIn_of_wp_marks (n := 6) Tryd.func52 rfl trivial ?_ rfl)
  simp only [Tryd.ntmps52, List.size_toArray, List.length_cons, List.length_nil, Nat.reduceAdd, Nat.reduceSub, Array.replicate_succ, Array.replicate_zero, List.push_toArray, List.append_toArray, List.nil_append, List.cons_append]
  gi_wp2_with (fail)
  refine ⟨trivial, (callsIn_wide.2 hrd).mono ?_⟩
  rintro e w0 ⟨rfl, hw⟩
  have hK0 : KO w b w0 := by rw [hw]; exact KO.of (h.set1 false) h.lt
  have hc0 : w0.cell? ⟨b, 0, none⟩ = some (.string s) := by rw [hw]; exact (h.set1 false).r.c0
  have hf0 : w0.frozen? ⟨b, 0, none⟩ = false := by rw [hw]; exact (h.set1 false).r.f0
  have hlt := h.lt
  clear hw hrd h
  obtain ⟨w1, hmk, hown, hgr⟩ := run_make_own (P := Tryd.prog) w0 w.heap.size 45 5 i0 (.int .u8 0) 1 Tryd.underlying45 hi hz0 hz1 .i64 .i64 k (by rw [hz2]; omega) (by unfold maxLen; omega) hK0.size
  obtain ⟨G, hG⟩ : ∃ G, w0.heap.size = G := ⟨_, rfl⟩
  have hgb := hgr.block b (Nat.lt_of_lt_of_le hlt hK0.size) (by simp)
  have hK1 : KO w b w1 := hK0.grow hgr (fun r e => by cases e)
  have hc1 : w1.cell? ⟨b, 0, none⟩ = some (.string s) := by rw [cell_of_heap hgb]; exact hc0
  have hf1 : w1.frozen? ⟨b, 0, none⟩ = false := by rw [frozen_of_heap hgb]; exact hf0
  have hwG : w.heap.size ≤ G := by rw [← hG]; exact hK0.size
  rw [hG] at hown
  have hO1 : OwnB G (s.data.toList.take 0) k w.heap.size w1 := hown
  have hlG : G < w1.heap.size := hO1.lt
  clear hc0 hf0 hK0 hgb hgr hown
  gi_wp2_with (fail)
  refine ⟨trivial, (callsIn_wide.2 (take_any b (k : Int) _)).mono ?_⟩
  rintro e w2 ⟨rfl, hw2⟩
  obtain ⟨g, hg⟩ : ∃ g, w1.heap.size = g := ⟨_, rfl⟩
  have hK2 : KO w b w2 := by rw [hw2]; exact ((hK1.alloc _).alloc _).alloc _
  have hO2 : OwnB G (s.data.toList.take 0) k w.heap.size w2 := by
    rw [hw2]; exact ((hO1.grow (World.grownBy_alloc _ _ none) (by simp)).grow (World.grownBy_alloc _ _ none) (by simp)).grow (World.grownBy_alloc _ _ none) (by simp)
  have hX2 : Bx g (.slice (some ⟨G, 0, none⟩) 0 k) w2 := by rw [hw2, ← hg, ← hG]; exact ((Bx.new w1 _ _).alloc _).alloc _
  have hR2 : Bx (g + 1) (.pointer (some ⟨b, 0, none⟩)) w2 := by
    rw [hw2, ← hg, show w1.heap.size + 1 = (w1.alloc (.cells #[.slice (some ⟨G, 0, none⟩) 0 k] 45)).heap.size by simp]; exact (Bx.new _ _ _).alloc _
  have hN2 : Bx (g + 1 + 1) (.int .i64 (k : Int)) w2 := by
    rw [hw2, ← hg, show w1.heap.size + 1 + 1 = ((w1.alloc (.cells #[.slice (some ⟨G, 0, none⟩) 0 k] 45)).alloc (.cells #[.pointer (some ⟨b, 0, none⟩)] 81)).heap.size by simp]; exact Bx.new _ _ _
  have hC2 : w2.cell? ⟨b, 0, none⟩ = some (.string s) := by rw [hw2]; exact cell_alloc_l _ (cell_alloc_l _ (cell_alloc_l _ hc1))
  have hF2 : w2.frozen? ⟨b, 0, none⟩ = false := by rw [hw2]; exact frozen_alloc_l _ (cell_alloc_l _ (cell_alloc_l _ hc1)) (frozen_alloc_l _ (cell_alloc_l _ hc1) (frozen_alloc_l _ hc1 hf1))
  have hz2' : g + 1 + 1 < w2.heap.size := by rw [hw2, ← hg]; simp
  have hGg : G < g := by omega
  have hbG : b < G := by omega
  have hT2 : TkAt b (g + 1 + 1) (g + 1) s k 0 w2 := ⟨by rw [show s.extract 0 s.size = s by simp]; exact hC2, hF2, hR2.c, hN2.c⟩
  clear hw2 hK1 hc1 hf1 hO1 hlG
  gi_wp2
  clear hg hG
  have hlen := take_len s k hk
  refine range_goes rfl (by decide) (gf := 70) (lb := #[.pointer (some ⟨g + 1 + 1, 0, none⟩), .pointer (some ⟨g + 1, 0, none⟩)]) rfl trivial (enters_of Tryd.func70 (by kernel_rfl) rfl)
    k (fun i => #[.int .u8 (((byteAt s i).toNat : Nat) : Int)]) (fun _ => rfl)
    (fun i W => TkAt b (g + 1 + 1) (g + 1) s k i W ∧ KO w b W ∧ Bx g (.slice (some ⟨G, 0, none⟩) i k) W ∧ OwnB G (s.data.toList.take i) k w.heap.size W)
    (fun i W => TkAt b (g + 1 + 1) (g + 1) s k (i + 1) W ∧ KO w b W ∧ Bx g (.slice (some ⟨G, 0, none⟩) i k) W ∧ OwnB G (s.data.toList.take i) k w.heap.size W)
    (fun i W W' row h hg hr => ⟨h.1.grown hg (fun r e => (hr r e).2), h.2.1.grown (by omega) hg hr, h.2.2.1.grown hg (fun r e => (hr r e).2), h.2.2.2.grow hg (fun e => by have := (hr _ e).1; omega)⟩)
    (fun i W W' row h hg hr => ⟨h.1.grown hg (fun r e => (hr r e).2), h.2.1.grown (by omega) hg hr, h.2.2.1.grown hg (fun r e => (hr r e).2), h.2.2.2.grow hg (fun e => by have := (hr _ e).1; omega)⟩)
    ⟨hT2, hK2, hX2, hO2⟩
    (fun i => { tmps := #[.pointer (some ⟨b, 0, none⟩), .int .i64 (k : Int), undef, undef, .string ⟨#[]⟩, .pointer (some ⟨g, 0, none⟩), .int .u8 (((byteAt s i).toNat : Nat) : Int), .pointer (some ⟨b, 0, none⟩), .int .i64 (k : Int), .int .i64 (k : Int), .bool true, .bool true, .bool false, .int .i64 (k : Int), .slice (some ⟨G, 0, none⟩) 0 k, .pointer (some ⟨b, 0, none⟩), .int .i64 (k : Int), .func (.func 70) #[] #[.pointer (some ⟨g + 1 + 1, 0, none⟩), .pointer (some ⟨g + 1, 0, none⟩)], .int .u8 (((byteAt s i).toNat : Nat) : Int), undef, undef, undef, undef, undef, undef], defers := [] })
    ?assign ?body ?iter ?done
  case assign =>
    intro l i W K hK
    gi_wp2
    exact hK
  case body =>
    rintro l i W hik ⟨hT, hK, hX, hO⟩
    have hxc := hX.c
    have hli := hlen i (by omega)
    have hOr : W.ownsRow w.heap.size 5 1 (.slice (some ⟨G, 0, none⟩) i k) i ((s.data.toList.take i).map byteVal) := by have := hO; unfold OwnB at this; rwa [hli] at this
    have hWl := hK.size
    gi_wp2_with (gi_at_builtin; refine wpListIn_append_fits _ rfl _ _ 45 rfl w.heap.size 5 i0 1 Tryd.underlying45 hi hz1 G i k ((s.data.toList.take i).map byteVal) rfl (hOr.alloc _) ⟨W.heap.size, 0, none⟩ 1 1 [.int .u8 (((byteAt s i).toNat : Nat) : Int)] rfl rfl (fun j u hj => by
      match j, hj with
      | 0, hj => simp at hj; subst hj; rw [addr_at, World.cell?_alloc_mark]; simp) (fun u hu => by simp at hu; subst hu; rfl) (by omega) ?_; intro w3 hown3 hg3; have hX3 := (hX.alloc (.cells #[.int .u8 (((byteAt s i).toNat : Nat) : Int)] 5)).grow hg3 (by simp; omega); have hc3 := hX3.c; have hf3 := hX3.f)
    have hT3 := (hT.alloc (.cells #[.int .u8 (((byteAt s i).toNat : Nat) : Int)] 5)).grow hg3 (by simp; omega) (by simp; omega) (by simp; omega)
    have hK3 := (hK.alloc (.cells #[.int .u8 (((byteAt s i).toNat : Nat) : Int)] 5)).grow hg3 (fun r e => by cases e; omega)
    have hO3 : OwnB G (s.data.toList.take (i + 1)) k w.heap.size w3 := by
      unfold OwnB
      rw [hlen (i + 1) (by omega), byte_take s i (by omega), List.map_append]
      exact hown3
    exact ⟨((KeepsOthers.alloc W _).from _).trans ((KeepsFrom.of_grownBy hg3 (fun j e => by cases e; omega)).trans ((KeepsOthers.setCell _ _ _).from _)), hT3.setNew (by omega) (by omega) (by omega) _, hK3.setNew (by omega) _, hX3.set, hO3.setOther (by omega)⟩
  case iter =>
    intro l K W hKp hI0 hK hY
    exact (take_it (6 - 1) (by decide) l b (g + 1 + 1) (g + 1) s k hk hs (by omega) (by omega) K (fun i W => KO w b W ∧ Bx g (.slice (some ⟨G, 0, none⟩) i k) W ∧ OwnB G (s.data.toList.take i) k w.heap.size W)
      (fun i W hi hT hC hK => ⟨⟨(hC.1.set0 _).drew, (hC.2.1.other (by omega)).drew, (hC.2.2.setOther (by omega)).same rfl⟩, hKp _ _ (((KeepsOthers.setCell _ _ _).trans (KeepsOthers.drew _)).from _) hK⟩)
      (fun i W1 hi hT hC hK => YieldAt.mono (hY i W1 hi ⟨hT, hC.1, hC.2⟩ hK) (fun e W' h => ⟨h.1, h.2.1.1, ⟨h.2.1.2.1, h.2.1.2.2⟩, h.2.2⟩))
      W hI0.1 ⟨hI0.2.1, hI0.2.2⟩ hK).mono (fun e W' h => ⟨h.1, ⟨h.2.1, h.2.2.1.1, h.2.2.1.2⟩, h.2.2.2⟩)
  case done =>
    rintro D W hD ⟨hT, hK, hX, hO⟩ hd
    have hxc := hX.c
    have hst := hO.str
    rw [hlen k (Nat.le_refl _), ext_take] at hst
    have hr : ∀ r, some D = some r → w2.heap.size ≤ r ∧ ∃ o : Obj, W.heap[r]? = some o ∧ o.isCells = false := fun r e => by cases e; exact ⟨hD, _, hd, rfl⟩
    have hg := grownBy_putObj' W D (.deferred none)
    have hT' := hT.grown hg (fun r e => (hr r e).2)
    generalize s.extract 0 k = u at *
    gi_wp2
    refine ⟨by simp, .inl ⟨_, _, rfl, run_takeDeferred hd, ?_⟩⟩
    exact ⟨_, results_tmp rfl _ _ _, rfl, (hK.grown (by omega) hg hr).to hT'.c hT'.f⟩
theorem rdtext_any (b : Nat) (s : ByteArray) (bad : Bool) (n : Int) (w : World) (h : RdAt w b s bad) (hs : s.size ≤ 140737488355328) :
    Calls Tryd.prog 52 #[.pointer (some ⟨b, 0, none⟩), .int .i64 n] w (Takes w b (.string (txtS s bad n)) (txtR s bad n) (!okT s bad n)) := by
  cases hok : okT s bad n with
  | true =>
    have h' := hok
    unfold okT at h'
    rw [Bool.and_eq_true, decide_eq_true_eq] at h'
    obtain ⟨hb, h0, h1⟩ := h'
    have hbad : bad = false := by cases bad <;> simp at hb ⊢
    subst hbad
    obtain ⟨k, rfl⟩ := Int.eq_ofNat_of_zero_le h0
    rw [txtS, txtR, hok, if_pos rfl, if_pos rfl, Int.toNat_natCast]
    exact rdtext_right b s k w h (by omega) hs
  | false =>
    have hrd := ready_any b s bad n (decide (0 ≤ n)) w h
    have hz : rdy s bad n (decide (0 ≤ n)) = false := by rw [← hok, okT, rdy, Bool.decide_and]
    rw [hz] at hrd
    have hO := Lib.hid hok
    clear hok hz
    obtain ⟨c, hc⟩ : ∃ c, decide (0 ≤ n) = c := ⟨_, rfl⟩
    rw [hc] at hrd
    go_enter Tryd.func52, Tryd.ntmps52
    go_wp2_with (fail)
    refine hrd.mono ?_
    rintro e w1 ⟨rfl, hw⟩
    have hR : RdTo w b s true w1 := by rw [hw]; exact h.set1 true
    clear hw
    go_wp2
    go_ret
    exact ⟨by rw [txtS, hO.out]; rfl, by rw [txtR, hO.out]; exact hR⟩
theorem rdnum_any (b : Nat) (s : ByteArray) (bad : Bool) (n : Int) (w : World) (h : RdAt w b s bad) (hs : s.size ≤ 140737488355328) :
    Calls Tryd.prog 53 #[.pointer (some ⟨b, 0, none⟩), .int .i64 n] w (Takes w b (.int .i64 ((numV s bad n : Nat) : Int)) (numR s bad n) (!okN s bad n)) := by
  cases hok : okN s bad n with
  | true =>
    have h' := hok
    unfold okN at h'
    rw [Bool.and_eq_true, decide_eq_true_eq] at h'
    obtain ⟨hb, h0, h1, h2⟩ := h'
    have hbad : bad = false := by cases bad <;> simp at hb ⊢
    subst hbad
    obtain ⟨k, rfl⟩ := Int.eq_ofNat_of_zero_le (show 0 ≤ n by omega)
    rw [numV, numR, hok, if_pos rfl, if_pos rfl, Int.toNat_natCast, ← ext_take, list_lineOf]
    exact rdnum_right b s k w h (by omega) (by omega) (by omega) hs
  | false =>
    by_cases h1 : 1 ≤ n
    · have t1 : decide (1 ≤ n) = true := by rw [decide_eq_true_eq]; exact h1
      have hrd := ready_any b s bad n (decide (n ≤ 7)) w h
      have hz : rdy s bad n (decide (n ≤ 7)) = false := by rw [← hok, okN, rdy, Bool.decide_and, Bool.decide_and, t1, Bool.true_and]
      rw [hz] at hrd
      have hO := Lib.hid hok
      clear hok hz h1
      obtain ⟨c, hc⟩ : ∃ c, decide (n ≤ 7) = c := ⟨_, rfl⟩
      rw [hc] at hrd
      go_enter Tryd.func53, Tryd.ntmps53
      go_wp2_with (fail)
      refine hrd.mono ?_
      rintro e w1 ⟨rfl, hw⟩
      have hR : RdTo w b s true w1 := by rw [hw]; exact h.set1 true
      clear hw
      go_wp2
      go_ret
      exact ⟨by rw [numV, hO.out]; rfl, by rw [numR, hO.out]; exact hR⟩
    · have t1 : decide (1 ≤ n) = false := by rw [decide_eq_false_iff_not]; exact h1
      have hrd := ready_any b s bad n false w h
      have hz : rdy s bad n false = false := by simp [rdy]
      rw [hz] at hrd
      have hO := Lib.hid hok
      clear hok hz h1
      go_enter Tryd.func53, Tryd.ntmps53
      go_wp2_with (fail)
      refine hrd.mono ?_
      rintro e w1 ⟨rfl, hw⟩
      have hR : RdTo w b s true w1 := by rw [hw]; exact h.set1 true
      clear hw
      go_wp2
      go_ret
      exact ⟨by rw [numV, hO.out]; rfl, by rw [numR, hO.out]; exact hR⟩
end Go.Proofs.YtdbjfofnkijmoaaDoor
