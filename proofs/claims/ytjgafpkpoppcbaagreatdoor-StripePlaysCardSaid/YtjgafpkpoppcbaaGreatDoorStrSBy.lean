import Derived.Test.YtjgafpkpoppcbaaGreatDoorStrP13
import Derived.Deep.WholeRow
set_option linter.unusedVariables false
set_option linter.unusedSimpArgs false
namespace Go.Proofs.YtjgafpkpoppcbaaGreatDoor
open Go.RowKit
set_option maxRecDepth 100000
theorem Stp.put13 (W : World) (p i : Nat) (u : Value) : Stp (fun z => z = p) (fun z => z = p) W (W.setCell ⟨p, i, none⟩ u) :=
  ⟨(Below.refl 0 W).setCell (p := ⟨p, i, none⟩) (Nat.zero_le _) u, fun k _ hn => Below.heap_setCell _ _ _ _ (fun e => hn e), fun k hk => .inl hk⟩
theorem row13_heap (W : World) {p k : Nat} (c : Array Value) (h : k ≠ p) : (W.setRow p c).heap[k]? = W.heap[k]? := by
  simp only [World.setRow]
  rw [Array.getElem?_modify, if_neg (fun e => h e.symm)]
section
variable {w W W' : World} {Sa Sb Sa' : Nat → Prop} {ka kb n g xb b bd k c : Nat} {K M B N : Int} {R Q : Rk} {X : Obj} {D : List ByteArray} {dv : Value}
theorem P13.put (h : P13 w W Sa Sb ka kb n g K M B R Q xb X) {p : Nat} (hp : w.heap.size ≤ p) (hg : g ≠ p) (hx : xb ≠ p) (ha : ¬ Sa p) (hb : ¬ Sb p) (i : Nat) (u : Value) : P13 w (W.setCell ⟨p, i, none⟩ u) Sa Sb ka kb n g K M B R Q xb X :=
  ⟨h.sw.put hp hg ha i u, (h.q.stepR (Stp.put13 W p i u) (fun z hz => by have e : z = p := hz; omega) (fun z hz e => hb (by have e2 : z = p := e; rw [← e2]; exact hz))).1, h.d, h.gn, (heap_put W hx i u).trans h.bx, h.ba, h.bb⟩
theorem P13.stpT (h : P13 w W Sa Sb ka kb n g K M B R Q xb X) {T : Nat → Prop} (hs : Stp T T W W') (hT : ∀ z, T z → w.heap.size ≤ z) (ha : ∀ z, Sa z → ¬ T z) (hb : ∀ z, Sb z → ¬ T z) (hg : ¬ T g) (hx : ¬ T xb) : P13 w W' Sa Sb ka kb n g K M B R Q xb X :=
  ⟨⟨(RA.stepR h.sw.ra hs hT ha).1, (hs.oth g h.sw.gl hg).trans h.sw.gb, h.sw.gn, h.sw.tb.of_cells fun b o hb => cell_of_heap (hs.oth b (Nat.lt_of_lt_of_le hb h.sw.tb.two) fun z => by have := hT b z; have := h.sw.two; omega) o, h.sw.two⟩, (h.q.stepR hs hT hb).1, h.d, h.gn, (hs.oth xb h.xl hx).trans h.bx, h.ba, h.bb⟩
theorem Stp.row13 (W : World) (p : Nat) (c : Array Value) : Stp (fun z => z = p) (fun z => z = p) W (W.setRow p c) :=
  ⟨below_setRow (Below.refl 0 W) (Nat.zero_le _) _, fun k _ hn => row13_heap W c (fun e => hn e), fun k hk => .inl hk⟩
structure SBy (W : World) (Sa Sb : Nat → Prop) (b : Nat) (N : Int) (dv : Value) (D : List ByteArray) : Prop where
  s : W.heap[b]? = some (.cells #[.int .i64 N, dv] 42 (0, 0))
  r : Reads W dv (tx D)
  nb : ¬ Sa b ∧ ¬ Sb b
  n : ∀ q, dv.ownBlock = some q → q < W.heap.size ∧ ¬ Sa q ∧ ¬ Sb q
  z : D.length ≤ 4 ∧ ∀ t ∈ D, t.size ≤ 120
theorem SBy.bl (h : SBy W Sa Sb b N dv D) : b < W.heap.size := (Array.getElem?_eq_some_iff.1 h.s).1
theorem SBy.stpA (h : SBy W Sa Sb b N dv D) (hs : Stp Sa Sa' W W') : SBy W' Sa' Sb b N dv D := by
  have hn : ∀ q, q < W.heap.size → ¬ Sa q → ¬ Sa' q := fun q hq hS hS' => by
    rcases hs.grow q hS' with z | z
    · exact hS z
    · omega
  exact ⟨(hs.oth b h.bl h.nb.1).trans h.s, h.r.stp hs fun q hq => (h.n q hq).2.1, ⟨hn b h.bl h.nb.1, h.nb.2⟩, fun q hq => ⟨Nat.lt_of_lt_of_le (h.n q hq).1 hs.b0.size, hn q (h.n q hq).1 (h.n q hq).2.1, (h.n q hq).2.2⟩, h.z⟩
theorem SBy.after (h : SBy W Sa Sb b N dv D) (hb : Below W.heap.size W W') : SBy W' Sa Sb b N dv D := h.stpA (Stp.quiet hb)
theorem SBy.fits (h : SBy W Sa Sb b N dv D) : Fits D := Fits.small (by have := h.z.1; omega) fun i hi => by
  rw [List.getD_eq_getElem?_getD, List.getElem?_eq_getElem hi]
  exact Nat.le_trans (h.z.2 _ (List.getElem_mem hi)) (by decide)
theorem SBy.cells (h : SBy W Sa Sb b N dv D) : W.cell? ⟨b, 0, none⟩ = some (.int .i64 N) ∧ W.cell? ⟨b, 1, none⟩ = some dv ∧ W.frozen? ⟨b, 0, none⟩ = false ∧ W.frozen? ⟨b, 1, none⟩ = false := ⟨heap_cell h.s rfl, heap_cell h.s rfl, frozen_of_row _ _ _ _ _ h.s, frozen_of_row _ _ _ _ _ h.s⟩
theorem SBx.own (h : SBx W Sa Sb b bd k c N D) : ∀ q, (Value.slice (some ⟨bd, 0, none⟩) k c).ownBlock = some q → q = bd := fun q hq => by
  have e : some bd = some q := hq
  injection e with e
  exact e.symm
theorem SBx.lt (h : SBx W Sa Sb b bd k c N D) : bd < W.heap.size := (h.o.o.lt bd rfl).2
theorem SBx.y (h : SBx W Sa Sb b bd k c N D) (hz : D.length ≤ 4 ∧ ∀ t ∈ D, t.size ≤ 120) : SBy W Sa Sb b N (.slice (some ⟨bd, 0, none⟩) k c) D :=
  ⟨h.s, h.o.reads, ⟨h.na.1, h.na.2.1⟩, fun q hq => by rw [h.own q hq]; exact ⟨h.lt, h.na.2.2⟩, hz⟩
theorem stripe_put (h : W.heap[b]? = some (.cells #[.int .i64 N, dv] 42 (0, 0))) (u : Value) : (W.setCell ⟨b, 1, none⟩ u).heap[b]? = some (.cells #[.int .i64 N, u] 42 (0, 0)) := by
  obtain ⟨hl, e⟩ := Array.getElem?_eq_some_iff.1 h
  simp [World.setCell, hl]
  rw [Array.getElem_modify]
  simp [e]
theorem SBx.tail (h : SBx W Sa Sb b bd k c N D) (hk : 1 ≤ k) (hD : D.length = k) (hz : D.length ≤ 4 ∧ ∀ t ∈ D, t.size ≤ 120) :
    ∃ a1 n1 c1, (∀ W', (Instr.slice 39 (.slice (some ⟨bd, 0, none⟩) k c) (some (.int .i64 1)) none none).run Tryz.prog W' = .ok (.slice a1 n1 c1) W') ∧ SBy (W.setCell ⟨b, 1, none⟩ (.slice a1 n1 c1)) Sa Sb b N (.slice a1 n1 c1) D.tail := by
  have hs : ∀ W, (sizeOf 9).run Tryz.prog W = .ok 1 W := fun W => by kernel_rfl
  have hc : k ≤ c := h.o.capOk
  have hcell : ∀ j (hj : j < D.length), W.cell? ⟨bd, j, none⟩ = some (.string D[j]) := fun j hj => by
    have := h.o.cell (i := j) (by simpa [tx] using hj)
    rw [this]; simp [tx, List.getD_eq_getElem?_getD, hj]
  have e1 : (1 : Int) ≤ (k : Int) := by omega
  refine ⟨some (if c - 1 = 0 then ⟨bd, 0, none⟩ else ⟨bd, 1, none⟩), k - 1, c - 1, fun W' => ?_, ?_⟩
  · have hadd : (⟨bd, 0, none⟩ : Addr).add 1 = ⟨bd, 1, none⟩ := (addr_at bd 0 1).trans (by rw [Nat.zero_add])
    simp [Instr.slice, run_underlying Tryz.underlying39, Instr.sliceBounds, Instr.sliceBound, asIntOf, hs W', e1]
    by_cases hk : c - 1 = 0
    · simp [hk, show (c = 1) by omega]
    · simp [hk, hadd, show ¬ (c = 1) by omega]
  · have hne : bd ≠ b := h.ne
    have hb2 : ∀ j, (W.setCell ⟨b, 1, none⟩ (.slice (some (if c - 1 = 0 then ⟨bd, 0, none⟩ else ⟨bd, 1, none⟩)) (k - 1) (c - 1))).cell? ⟨bd, j, none⟩ = W.cell? ⟨bd, j, none⟩ := fun j => cell_of_heap (heap_put W hne 1 _) j
    have hown : ∀ q, (Value.slice (some (if c - 1 = 0 then (⟨bd, 0, none⟩ : Addr) else ⟨bd, 1, none⟩)) (k - 1) (c - 1)).ownBlock = some q → q = bd := fun q hq => by
      split at hq
      · have e : some bd = some q := hq
        injection e with e; exact e.symm
      · have e : some bd = some q := hq
        injection e with e; exact e.symm
    refine ⟨stripe_put h.s _, ?_, ⟨h.na.1, h.na.2.1⟩, fun q hq => ?_, by rw [List.length_tail]; omega, fun t ht => hz.2 t (List.mem_of_mem_tail ht)⟩
    · by_cases h0 : k - 1 = 0
      · have ht : D.tail.length = 0 := by rw [List.length_tail]; omega
        exact .inl ⟨⟨_, _, by rw [h0]⟩, by rw [List.length_eq_zero_iff.1 ht]; rfl⟩
      · refine .inr ⟨bd, 1, c - 1, ?_, by simpa using h.lt, fun j hj => ?_⟩
        · rw [if_neg (by omega)]
          simp [tx, hD]
        · have hj' : j + 1 < D.length := by simp [tx] at hj; omega
          rw [hb2, Nat.add_comm 1 j, hcell (j + 1) hj']
          simp [tx, List.getD_eq_getElem?_getD, hj', List.getElem?_tail]
    · rw [hown q hq]; exact ⟨by simpa using h.lt, h.na.2.2⟩
theorem SBx.cut (h : SBx W Sa Sb b bd k c N D) (hz : D.length ≤ 4 ∧ ∀ t ∈ D, t.size ≤ 120) (s : ByteArray) (hs : s.size ≤ 120) : SBy (W.setCell ⟨bd, 0, none⟩ (.string s)) Sa Sb b N (.slice (some ⟨bd, 0, none⟩) k c) (D.set 0 s) := by
  have ho := h.o.set 0 (.string s)
  have e : (tx D).set 0 (.string s) = tx (D.set 0 s) := by simp [tx]
  rw [e] at ho
  refine ⟨(heap_put W h.ne.symm 0 _).trans h.s, ho.reads, ⟨h.na.1, h.na.2.1⟩, fun q hq => by rw [h.own q hq]; exact ⟨by simpa using h.lt, h.na.2.2⟩, by rw [List.length_set]; exact hz.1, fun t ht => ?_⟩
  rcases List.mem_or_eq_of_mem_set ht with y | y
  · exact hz.2 t y
  · rw [y]; exact hs
theorem SBx.first (h : SBx W Sa Sb b bd k c N D) (hk : 1 ≤ k) (hD : D.length = k) : W.cell? ⟨bd, 0, none⟩ = some (.string (D.getD 0 ⟨#[]⟩)) ∧ W.frozen? ⟨bd, 0, none⟩ = false := by
  have := h.o.cell (i := 0) (by simp [tx]; omega)
  refine ⟨?_, h.o.frozen 0⟩
  rw [this]; simp [tx, List.getD_eq_getElem?_getD, show 0 < D.length by omega]
theorem str_hi_at (s : ByteArray) (j : Nat) (hj : j ≤ s.size) (W : World) : (Instr.sliceAt 9 (.string s) none (some (.int .i64 (j : Int))) none).run Tryz.prog W = .ok (.string (s.extract 0 j)) W := by
  simp [Instr.sliceAt, Instr.slice, run_underlying Tryz.underlying9, Instr.sliceBounds, Instr.sliceBound, asIntOf, hj]
theorem str_store {W : World} {p j : Nat} {u old : Value} (hu : ∃ s, u = .string s) (hc : W.cell? ⟨p, j, none⟩ = some old) (hf : W.frozen? ⟨p, j, none⟩ = false) : (Instr.storeAt 9 (.pointer (some ⟨p, j, none⟩)) u).run Tryz.prog W = .ok () (W.setCell ⟨p, j, none⟩ u) := by
  obtain ⟨s, rfl⟩ := hu
  have hT : ∀ W, (isAgg 9).run Tryz.prog W = .ok false W := fun W => by kernel_rfl
  have ha : (⟨p, j, none⟩ : Addr).add 0 = ⟨p, j, none⟩ := by simp [Addr.add]
  simp [go_sem, Instr.storeAt, Instr.sureAddr, asAddr, storeVar, Value.cells, storeCells, ha, stored, hT W, hc, hf]
section
variable {P : Program} {ops : Array Oper} {o : Oper} {a : Act} {w w' : World} {K : Act → World → Prop} {Q : Exit → Act → World → Prop} {E : Prop}
theorem step_alloc_run {ty : TypeId} {v : Value} (hr : (Instr.alloc ty true (.tuple #[])).run P w = .ok v w') (hg : o.guard = none) (hop : o.op = .alloc ty) {d : Option Tmp} (hd : o.dst = d) (hK : K (a.put d v) w') :
    if Region.wanted o (yielded ops a.tmps) = true then Oper.wp P o a w K Q else E := by
  have hw : Region.wanted o (yielded ops a.tmps) = true := by simp [Region.wanted, hg]
  rw [if_pos hw]
  subst hd
  unfold Oper.wp execOp
  simp only [hop, Sem.run_bind, Sem.run_pure, hr, Result.andThen_ok]
  exact hK
end
theorem stripe_alloc (W : World) : (Instr.alloc 42 true (.tuple #[])).run Tryz.prog W = .ok (.pointer (some ⟨W.heap.size, 0, none⟩)) (W.alloc (.cells #[.int .i64 0, .slice none 0 0] 42)) := by kernel_rfl
theorem stripe_store (W : World) (N : Int) (a : Option Addr) (n c : Nat) : (Instr.storeAt 42 (.pointer (some ⟨W.heap.size, 0, none⟩)) (.agg #[.int .i64 N, .slice a n c])).run Tryz.prog (W.alloc (.cells #[.int .i64 0, .slice none 0 0] 42)) = .ok () (W.alloc (.cells #[.int .i64 N, .slice a n c] 42)) :=
  run_storeAt_new W 42 _ _ (by kernel_rfl) rfl (by simp [Value.oneCell'])
theorem stripe_storeR (W : World) (b : Nat) (hb : W.heap[b]? = some (.cells #[.int .i64 0, .slice none 0 0] 42 (0, 0))) (N : Int) (a : Option Addr) (n c : Nat) : (Instr.storeAt 42 (.pointer (some ⟨b, 0, none⟩)) (.agg #[.int .i64 N, .slice a n c])).run Tryz.prog W = .ok () (W.setRow b #[.int .i64 N, .slice a n c]) := by
  simp only [Instr.storeAt, Instr.sureAddr, Sem.run_bind, Sem.run_pure, Result.andThen]
  exact run_storeVar_row W b 42 42 _ _ hb (by kernel_rfl) rfl (by simp [Value.oneCell'])
end
end Go.Proofs.YtjgafpkpoppcbaaGreatDoor
