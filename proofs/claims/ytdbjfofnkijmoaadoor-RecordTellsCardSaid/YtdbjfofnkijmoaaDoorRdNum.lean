/- Readers: numbers and texts are taken. -/
import Derived.Test.YtdbjfofnkijmoaaDoorRdTake
namespace Go.Proofs.YtdbjfofnkijmoaaDoor
open Go.RowKit Go.Shelf
set_option linter.unusedVariables false
set_option linter.unusedSimpArgs false
attribute [local go_sem] Oper.semAt_some

/-- All that lay in w but block b lies in W as it lay; the reader there is not bad. -/
structure KO (w : World) (b : Nat) (W : World) : Prop where
  keep : ∀ B, B ≤ b → B ≤ w.heap.size → Below B w W
  oth : ∀ k, k < w.heap.size → k ≠ b → W.heap[k]? = w.heap[k]?
  c1 : W.cell? ⟨b, 1, none⟩ = some (.bool false)
  f1 : W.frozen? ⟨b, 1, none⟩ = false
  lt : b < w.heap.size
theorem KO.size {w W : World} {b : Nat} (h : KO w b W) : w.heap.size ≤ W.heap.size := (h.keep 0 (Nat.zero_le _) (Nat.zero_le _)).size
theorem KO.of {w W : World} {b : Nat} {s : ByteArray} (h : RdTo w b s false W) (hb : b < w.heap.size) : KO w b W := ⟨h.keep, h.oth, h.r.c1, h.r.f1, hb⟩
theorem KO.to {w W : World} {b : Nat} {s : ByteArray} (h : KO w b W) (c : W.cell? ⟨b, 0, none⟩ = some (.string s)) (f : W.frozen? ⟨b, 0, none⟩ = false) : RdTo w b s false W := ⟨h.keep, h.oth, ⟨c, h.c1, f, h.f1, Nat.lt_of_lt_of_le h.lt h.size⟩⟩
theorem KO.alloc {w W : World} {b : Nat} (h : KO w b W) (o : Obj) : KO w b (W.alloc o) := by
  have hx := (Below.refl W.heap.size W).alloc (Nat.le_refl _) o
  have hl := Nat.lt_of_lt_of_le h.lt h.size
  exact ⟨fun B h1 h2 => (h.keep B h1 h2).trans (hx.mono (Nat.le_trans h2 h.size)), fun k hk hne => (hx.block k (Nat.lt_of_lt_of_le hk h.size)).trans (h.oth k hk hne), by rw [hx.cell (p := ⟨b, 1, none⟩) hl]; exact h.c1, by rw [hx.frozen (p := ⟨b, 1, none⟩) hl]; exact h.f1, h.lt⟩
theorem KO.drew {w W : World} {b : Nat} (h : KO w b W) : KO w b W.drew :=
  ⟨fun B h1 h2 => (h.keep B h1 h2).trans ⟨rfl, rfl, rfl, Nat.le_refl _, fun _ _ => rfl⟩, h.oth, h.c1, h.f1, h.lt⟩
theorem KO.set0 {w W : World} {b : Nat} (h : KO w b W) (v : Value) : KO w b (W.setCell ⟨b, 0, none⟩ v) :=
  ⟨fun B h1 h2 => (h.keep B h1 h2).setCell (p := ⟨b, 0, none⟩) h1 _, fun k hk hne => (Below.heap_setCell _ _ _ _ (by simpa using hne)).trans (h.oth k hk hne), by rw [World.cell?_setCell_other W _ _ _ (by simp)]; exact h.c1, by rw [World.frozen?_setCell]; exact h.f1, h.lt⟩
theorem KO.setNew {w W : World} {b g o : Nat} (h : KO w b W) (hg : w.heap.size ≤ g) (v : Value) : KO w b (W.setCell ⟨g, o, none⟩ v) := by
  have hne : g ≠ b := by have := h.lt; omega
  exact ⟨fun B h1 h2 => (h.keep B h1 h2).setCell (p := ⟨g, o, none⟩) (Nat.le_trans h2 hg) _, fun k hk hn => (Below.heap_setCell _ _ _ _ (by show k ≠ g; omega)).trans (h.oth k hk hn), by rw [World.cell?_setCell_other W _ _ _ (fun e => hne (congrArg Addr.block e))]; exact h.c1, by rw [World.frozen?_setCell]; exact h.f1, h.lt⟩
theorem KO.grown {w W W' : World} {b B : Nat} {row : Option Nat} (hs : KO w b W) (hB : w.heap.size ≤ B) (hg : W.grownBy W' row) (hr : ∀ r, row = some r → B ≤ r ∧ ∃ o : Obj, W.heap[r]? = some o ∧ o.isCells = false) : KO w b W' :=
  ⟨fun B' h1 h2 => (hs.keep B' h1 h2).grown hg (Nat.le_trans h2 hs.size) (fun k e => Nat.le_trans (Nat.le_trans h2 hB) (hr k e).1),
    fun k hk hne => (hg.block k (Nat.lt_of_lt_of_le hk hs.size) (fun e => by have := (hr k e.symm).1; omega)).trans (hs.oth k hk hne),
    cell_kept hs.c1 hg (fun r e => (hr r e).2), (frozen_kept hs.c1 hg (fun r e => (hr r e).2)).trans hs.f1, hs.lt⟩
theorem TkAt.grown {b Bn Br k i : Nat} {s : ByteArray} {W W' : World} {row : Option Nat} (hs : TkAt b Bn Br s k i W) (hg : W.grownBy W' row) (hr : ∀ r, row = some r → ∃ o : Obj, W.heap[r]? = some o ∧ o.isCells = false) : TkAt b Bn Br s k i W' :=
  ⟨cell_kept hs.c hg hr, (frozen_kept hs.c hg hr).trans hs.f, cell_kept hs.r hg hr, cell_kept hs.n hg hr⟩
theorem TkAt.setNew {b Bn Br k i g o : Nat} {s : ByteArray} {W : World} (hs : TkAt b Bn Br s k i W) (h1 : g ≠ b) (h2 : g ≠ Br) (h3 : g ≠ Bn) (v : Value) : TkAt b Bn Br s k i (W.setCell ⟨g, o, none⟩ v) :=
  ⟨by rw [World.cell?_setCell_other W _ _ _ (fun e => h1 (congrArg Addr.block e))]; exact hs.c, by rw [World.frozen?_setCell]; exact hs.f, by rw [World.cell?_setCell_other W _ _ _ (fun e => h2 (congrArg Addr.block e))]; exact hs.r, by rw [World.cell?_setCell_other W _ _ _ (fun e => h3 (congrArg Addr.block e))]; exact hs.n⟩
/-- A variable in a box. -/
structure Bx (g : Nat) (v : Value) (W : World) : Prop where
  c : W.cell? ⟨g, 0, none⟩ = some v
  f : W.frozen? ⟨g, 0, none⟩ = false
theorem Bx.grown {g : Nat} {v : Value} {W W' : World} {row : Option Nat} (hs : Bx g v W) (hg : W.grownBy W' row) (hr : ∀ r, row = some r → ∃ o : Obj, W.heap[r]? = some o ∧ o.isCells = false) : Bx g v W' := ⟨cell_kept hs.c hg hr, (frozen_kept hs.c hg hr).trans hs.f⟩
theorem Bx.other {g k o : Nat} {u v : Value} {W : World} (hs : Bx g v W) (h : k ≠ g) : Bx g v (W.setCell ⟨k, o, none⟩ u) := ⟨by rw [World.cell?_setCell_other W _ _ _ (fun e => h (congrArg Addr.block e))]; exact hs.c, by rw [World.frozen?_setCell]; exact hs.f⟩
theorem Bx.set {g : Nat} {u v : Value} {W : World} (hs : Bx g v W) : Bx g u (W.setCell ⟨g, 0, none⟩ u) := ⟨World.cell?_setCell_same' W _ _ (by rw [hs.c]; rfl), by rw [World.frozen?_setCell]; exact hs.f⟩
theorem lt_of_cell {W : World} {a : Addr} {v : Value} (h : W.cell? a = some v) : a.block < W.heap.size := by
  obtain ⟨o, ho, _⟩ := cells_of_cell h
  exact (Array.getElem?_eq_some_iff.1 ho).1
theorem cell_alloc_l {W : World} {a : Addr} {v : Value} (o : Obj) (h : W.cell? a = some v) : (W.alloc o).cell? a = some v := by
  rw [((Below.refl W.heap.size W).alloc (Nat.le_refl _) o).cell (lt_of_cell h)]; exact h
theorem frozen_alloc_l {W : World} {a : Addr} {v : Value} (o : Obj) (h : W.cell? a = some v) (hf : W.frozen? a = false) : (W.alloc o).frozen? a = false := by
  rw [((Below.refl W.heap.size W).alloc (Nat.le_refl _) o).frozen (lt_of_cell h)]; exact hf
theorem cell_new_l (W : World) (v : Value) (T : TypeId) : (W.alloc (.cells #[v] T)).cell? ⟨W.heap.size, 0, none⟩ = some v ∧ (W.alloc (.cells #[v] T)).frozen? ⟨W.heap.size, 0, none⟩ = false :=
  ⟨by rw [World.cell?_alloc_mark]; rfl, frozen_of_row _ _ _ _ _ (heap_alloc_new _ _)⟩
theorem Bx.alloc {g : Nat} {v : Value} {W : World} (hs : Bx g v W) (o : Obj) : Bx g v (W.alloc o) := ⟨cell_alloc_l _ hs.c, frozen_alloc_l _ hs.c hs.f⟩
theorem Bx.new (W : World) (v : Value) (T : TypeId) : Bx W.heap.size v (W.alloc (.cells #[v] T)) := ⟨(cell_new_l W v T).1, (cell_new_l W v T).2⟩
theorem Bx.drew {g : Nat} {v : Value} {W : World} (hs : Bx g v W) : Bx g v W.drew := ⟨hs.c, hs.f⟩
theorem or64 (q x : Nat) (h1 : q < 281474976710656) (h2 : x < 256) : bits .or .i64 (wrap64 ((q : Int) * 256)) (wrap64 (x : Int)) = ((256 * q + x : Nat) : Int) := by
  have w1 : wrap64 ((q : Int) * 256) = ((q * 256 : Nat) : Int) := by rw [IntWalk.wrap64_in _ ⟨by omega, by omega⟩, Int.natCast_mul]; rfl
  have w2 : wrap64 (x : Int) = ((x : Nat) : Int) := IntWalk.wrap64_in _ ⟨by omega, by omega⟩
  have hl : q * 256 ||| x = 256 * q + x := by
    have := Nat.shiftLeft_add_eq_or_of_lt (b := x) (i := 8) (by omega) q
    rw [Nat.shiftLeft_eq, show (2 : Nat) ^ 8 = 256 from rfl] at this
    omega
  have e : (BitVec.ofNat 64 (q * 256) ||| BitVec.ofNat 64 x).toNat = 256 * q + x := by
    rw [BitVec.toNat_or, BitVec.toNat_ofNat, BitVec.toNat_ofNat, Nat.mod_eq_of_lt (by omega), Nat.mod_eq_of_lt (by omega), hl]
  have e2 : bits .or .i64 ((q * 256 : Nat) : Int) (x : Int) = IntKind.i64.wrap (((BitVec.ofNat 64 (q * 256) ||| BitVec.ofNat 64 x).toNat : Nat) : Int) := by
    have ea : BitVec.ofInt 64 ((q * 256 : Nat) : Int) = BitVec.ofNat 64 (q * 256) := BitVec.ofInt_natCast 64 _
    have eb : BitVec.ofInt 64 (x : Int) = BitVec.ofNat 64 x := BitVec.ofInt_natCast 64 x
    rw [← ea, ← eb]; rfl
  rw [w1, w2, e2, e]
  exact IntWalk.i64_in _ ⟨by omega, by omega⟩
theorem byte_take (s : ByteArray) (i : Nat) (h : i < s.size) : s.data.toList.take (i + 1) = s.data.toList.take i ++ [byteAt s i] := by
  have h' : i < s.data.toList.length := by simpa using h
  rw [List.take_succ_eq_append_getElem h', byteAt, List.getD_eq_getElem?_getD, List.getElem?_eq_getElem h']; rfl
set_option maxRecDepth 100000 in
set_option maxHeartbeats 4000000 in
theorem rdnum_right (b : Nat) (s : ByteArray) (k : Nat) (w : World) (h : RdAt w b s false) (h1 : 1 ≤ k) (h7 : k ≤ 7) (hk : k ≤ s.size) (hs : s.size ≤ 140737488355328) :
    Calls Tryd.prog 53 #[.pointer (some ⟨b, 0, none⟩), .int .i64 (k : Int)] w (Takes w b (.int .i64 ((Pk.val (s.data.toList.take k) : Nat) : Int)) (s.extract k s.size) false) := by
  have hrd := ready_any b s false (k : Int) true w h
  have hrt : rdy s false (k : Int) true = true := by unfold rdy; rw [decide_eq_true (by omega)]; rfl
  rw [hrt] at hrd
  have t1 : decide (1 ≤ (k : Int)) = true := by rw [decide_eq_true_eq]; omega
  have t2 : decide ((k : Int) ≤ 7) = true := by rw [decide_eq_true_eq]; omega
  clear hrt
  refine callsIn_wide.1 (callsIn_of_wp_marks (n := 6) Tryd.func53 rfl trivial ?_ rfl)
  simp only [Tryd.ntmps53, List.size_toArray, List.length_cons, List.length_nil, Nat.reduceAdd, Nat.reduceSub, Array.replicate_succ, Array.replicate_zero, List.push_toArray, List.append_toArray, List.nil_append, List.cons_append]
  gi_wp2_with (fail)
  refine ⟨trivial, (callsIn_wide.2 hrd).mono ?_⟩
  rintro e w1 ⟨rfl, hw⟩
  have hK1 : KO w b w1 := by rw [hw]; exact KO.of (h.set1 false) h.lt
  have hc1 : w1.cell? ⟨b, 0, none⟩ = some (.string s) := by rw [hw]; exact (h.set1 false).r.c0
  have hf1 : w1.frozen? ⟨b, 0, none⟩ = false := by rw [hw]; exact (h.set1 false).r.f0
  have hlt := h.lt
  have hsz := hK1.size
  clear hw hrd h
  gi_wp2_with (fail)
  refine ⟨trivial, (callsIn_wide.2 (take_any b (k : Int) _)).mono ?_⟩
  rintro e w2 ⟨rfl, hw2⟩
  obtain ⟨g, hg⟩ : ∃ g, w1.heap.size = g := ⟨_, rfl⟩
  have hK2 : KO w b w2 := by rw [hw2]; exact ((hK1.alloc _).alloc _).alloc _
  have hX2 : Bx g (.int .i64 0) w2 := by rw [hw2, ← hg]; exact ((Bx.new w1 _ _).alloc _).alloc _
  have hR2 : Bx (g + 1) (.pointer (some ⟨b, 0, none⟩)) w2 := by
    rw [hw2, ← hg, show w1.heap.size + 1 = (w1.alloc (.cells #[.int .i64 0] 3)).heap.size by simp]; exact (Bx.new _ _ _).alloc _
  have hN2 : Bx (g + 1 + 1) (.int .i64 (k : Int)) w2 := by
    rw [hw2, ← hg, show w1.heap.size + 1 + 1 = ((w1.alloc (.cells #[.int .i64 0] 3)).alloc (.cells #[.pointer (some ⟨b, 0, none⟩)] 81)).heap.size by simp]; exact Bx.new _ _ _
  have hC2 : w2.cell? ⟨b, 0, none⟩ = some (.string s) := by rw [hw2]; exact cell_alloc_l _ (cell_alloc_l _ (cell_alloc_l _ hc1))
  have hF2 : w2.frozen? ⟨b, 0, none⟩ = false := by rw [hw2]; exact frozen_alloc_l _ (cell_alloc_l _ (cell_alloc_l _ hc1)) (frozen_alloc_l _ (cell_alloc_l _ hc1) (frozen_alloc_l _ hc1 hf1))
  have hz2 : g + 1 + 1 < w2.heap.size := by rw [hw2, ← hg]; simp
  have hbg : b < g := by omega
  have hwg : w.heap.size ≤ g := by omega
  have hT2 : TkAt b (g + 1 + 1) (g + 1) s k 0 w2 := ⟨by rw [show s.extract 0 s.size = s by simp]; exact hC2, hF2, hR2.c, hN2.c⟩
  rw [hg]
  clear hw2 hK1 hc1 hf1 hsz
  gi_wp2
  clear hg
  refine range_goes rfl (by decide) (gf := 70) (lb := #[.pointer (some ⟨g + 1 + 1, 0, none⟩), .pointer (some ⟨g + 1, 0, none⟩)]) rfl trivial (enters_of Tryd.func70 (by kernel_rfl) rfl)
    k (fun i => #[.int .u8 (((byteAt s i).toNat : Nat) : Int)]) (fun _ => rfl)
    (fun i W => TkAt b (g + 1 + 1) (g + 1) s k i W ∧ KO w b W ∧ Bx g (.int .i64 ((Pk.val (s.data.toList.take i) : Nat) : Int)) W)
    (fun i W => TkAt b (g + 1 + 1) (g + 1) s k (i + 1) W ∧ KO w b W ∧ Bx g (.int .i64 ((Pk.val (s.data.toList.take i) : Nat) : Int)) W)
    (fun i W W' row h hg hr => ⟨h.1.grown hg (fun r e => (hr r e).2), h.2.1.grown (by omega) hg hr, h.2.2.grown hg (fun r e => (hr r e).2)⟩)
    (fun i W W' row h hg hr => ⟨h.1.grown hg (fun r e => (hr r e).2), h.2.1.grown (by omega) hg hr, h.2.2.grown hg (fun r e => (hr r e).2)⟩)
    ⟨hT2, hK2, hX2⟩
    (fun i => { tmps := #[.pointer (some ⟨b, 0, none⟩), .int .i64 (k : Int), undef, undef, .int .i64 0, .pointer (some ⟨g, 0, none⟩), .int .u8 (((byteAt s i).toNat : Nat) : Int), .pointer (some ⟨b, 0, none⟩), .int .i64 (k : Int), .int .i64 (k : Int), .bool true, .bool true, .int .i64 (k : Int), .bool true, .bool true, .bool true, .bool false, .pointer (some ⟨b, 0, none⟩), .int .i64 (k : Int), .func (.func 70) #[] #[.pointer (some ⟨g + 1 + 1, 0, none⟩), .pointer (some ⟨g + 1, 0, none⟩)], .int .u8 (((byteAt s i).toNat : Nat) : Int), undef, undef, undef, undef, undef, undef], defers := [] })
    ?assign ?body ?iter ?done
  case assign =>
    intro l i W K hK
    gi_wp2
    exact hK
  case body =>
    rintro l i W hi ⟨hT, hK, hX⟩
    have hxc := hX.c
    have hxf := hX.f
    gi_wp2
    have hvl : (s.data.toList.take i).length ≤ 6 := by rw [List.length_take]; omega
    have hv2 : Pk.val (s.data.toList.take i) < 281474976710656 := Nat.lt_of_lt_of_le (Pk.val_lt _) (Nat.pow_le_pow_right (by decide) hvl)
    have hval : Pk.val (s.data.toList.take (i + 1)) = 256 * Pk.val (s.data.toList.take i) + (byteAt s i).toNat := by rw [byte_take s i (by omega), Pk.val_snoc]
    rw [or64 _ _ hv2 (UInt8.toNat_lt _), ← hval]
    exact ⟨(KeepsOthers.setCell _ _ _).from _, hT.setNew (by omega) (by omega) (by omega) _, hK.setNew hwg _, hX.set⟩
  case iter =>
    intro l K W hKp hI0 hK hY
    exact (take_it (6 - 1) (by decide) l b (g + 1 + 1) (g + 1) s k hk hs (by omega) (by omega) K (fun i W => KO w b W ∧ Bx g (.int .i64 ((Pk.val (s.data.toList.take i) : Nat) : Int)) W)
      (fun i W hi hT hC hK => ⟨⟨(hC.1.set0 _).drew, (hC.2.other (by omega)).drew⟩, hKp _ _ (((KeepsOthers.setCell _ _ _).trans (KeepsOthers.drew _)).from _) hK⟩)
      (fun i W1 hi hT hC hK => YieldAt.mono (hY i W1 hi ⟨hT, hC.1, hC.2⟩ hK) (fun e W' h => ⟨h.1, h.2.1.1, ⟨h.2.1.2.1, h.2.1.2.2⟩, h.2.2⟩))
      W hI0.1 ⟨hI0.2.1, hI0.2.2⟩ hK).mono (fun e W' h => ⟨h.1, ⟨h.2.1, h.2.2.1.1, h.2.2.1.2⟩, h.2.2.2⟩)
  case done =>
    rintro D W hD ⟨hT, hK, hX⟩ hd
    have hxc := hX.c
    gi_wp2
    have hr : ∀ r, some D = some r → w2.heap.size ≤ r ∧ ∃ o : Obj, W.heap[r]? = some o ∧ o.isCells = false := fun r e => by cases e; exact ⟨hD, _, hd, rfl⟩
    have hg := grownBy_putObj' W D (.deferred none)
    have hT' := hT.grown hg (fun r e => (hr r e).2)
    refine ⟨by simp, .inl ⟨_, _, rfl, run_takeDeferred hd, ?_⟩⟩
    exact ⟨_, results_tmp rfl _ _ _, rfl, (hK.grown (by omega) hg hr).to hT'.c hT'.f⟩
end Go.Proofs.YtdbjfofnkijmoaaDoor
