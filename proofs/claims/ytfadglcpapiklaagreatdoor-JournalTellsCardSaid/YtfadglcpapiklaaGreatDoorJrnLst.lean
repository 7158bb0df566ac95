/- Lists, flags and a geometry beside a rack. -/
import Derived.Test.YtfadglcpapiklaaGreatDoorLstr
import Derived.Test.YtfadglcpapiklaaGreatDoorLrack
namespace Go.Proofs.YtfadglcpapiklaaGreatDoor
open Go.RowKit
set_option linter.unusedVariables false
set_option linter.unusedSimpArgs false
set_option maxRecDepth 100000

def bv (l : List Bool) : List Value := l.map .bool
theorem bv_getD (l : List Bool) {i : Nat} (h : i < l.length) : (bv l).getD i .nilFunc = .bool (l.getD i false) := by
  simp [bv, List.getD_eq_getElem?_getD, h]
theorem bv_length (l : List Bool) : (bv l).length = l.length := by simp [bv]
theorem bv_set (l : List Bool) (i : Nat) (b : Bool) : bv (l.set i b) = (bv l).set i (.bool b) := by simp [bv, List.map_set]
theorem Reads.form {w : World} {v : Value} {xs : List Value} (h : Reads w v xs) : ∃ a c, v = .slice a xs.length c := by
  rcases h with ⟨⟨a0, c0, rfl⟩, rfl⟩ | ⟨b, off, cap, rfl, _⟩
  · exact ⟨a0, c0, rfl⟩
  · exact ⟨_, _, rfl⟩
theorem Own.capOk {w : World} {B : Nat} {E : TypeId} {v : Value} {xs : List Value} (h : Own w B E v xs) : capOk v := by
  rcases h.o.2 with ⟨rfl, _⟩ | ⟨g, cap, cur, rfl, _, _, h4, _⟩
  · exact Nat.le_refl _
  · exact h4
theorem Own.down {w : World} {B B' : Nat} {E : TypeId} {v : Value} {xs : List Value} (h : Own w B E v xs) (hB : B' ≤ B) : Own w B' E v xs := by
  refine ⟨h.o.1, ?_⟩
  rcases h.o.2 with h1 | ⟨g, cap, cur, h1, h2, h3, h4⟩
  · exact .inl h1
  · exact .inr ⟨g, cap, cur, h1, Nat.le_trans hB h2, h3, h4⟩
def fl1 (n : Nat) (R : Rk) (x : Int) : Rk × Int := (flR n R x, flRE n R x)
theorem fl1_ok {n : Nat} (R : Rk) (x : Int) (c : Nat) (h : ROk n R c) : ROk n (fl1 n R x).1 (c + 1) := h.fl x
section
variable {w w1 w4 wr w' : World} {S : Nat → Prop} {k n : Nat} {R : Rk} {E : TypeId} {v : Value} {xs : List Value}
theorem RA.drewB (h : RA w S w1 k n R) (hb : Below w1.heap.size w1 w4) : RA w S w4 k n R := h.after hb
/-- What was done from a later world on was done from here on. -/
theorem ROwn.from (hb : Below w1.heap.size w1 w4) (h : ROwn w S w4 k n R E v xs wr) : ROwn w S w1 k n R E v xs wr := by
  obtain ⟨S', s1, h1, o, a⟩ := h
  exact ⟨S', (Stp.quiet hb).trans s1, h1, o.down hb.size, a⟩
theorem EDoes.from (hb : Below w1.heap.size w1 w4) {X : Rk × List Int × Int} {e : Ending} (h : EDoes w S w4 k n X e w') : EDoes w S w1 k n X e w' := by
  obtain ⟨v, e1, h1⟩ := h
  exact ⟨v, e1, h1.from hb⟩
theorem edoes_no (h : RA w S w1 k n R) (hb : Below w1.heap.size w1 w4) (E : Int) : EDoes w S w1 k n (R, [], E) (.returned (.tuple #[.slice none 0 0, .int .i64 E])) w4 :=
  ⟨_, rfl, ROwn.nil ((RNow.start h).after hb) 3⟩
end
theorem Reads.kept {w w' : World} {v : Value} {xs : List Value} (h : Reads w v xs) (hs : w.heap.size ≤ w'.heap.size) (e : ∀ q, v.ownBlock = some q → q < w.heap.size → w'.heap[q]? = w.heap[q]?) : Reads w' v xs := by
  rcases h with h | ⟨b, off, cap, h1, h2, h3⟩
  · exact .inl h
  · exact .inr ⟨b, off, cap, h1, Nat.lt_of_lt_of_le h2 hs, fun i hi => (cell_of_heap (e b (by rw [h1]; rfl) h2) (off + i)).trans (h3 i hi)⟩
theorem Reads.stp {w w' : World} {S S' : Nat → Prop} {v : Value} {xs : List Value} (h : Reads w v xs) (hs : Stp S S' w w') (hn : ∀ q, v.ownBlock = some q → ¬ S q) : Reads w' v xs := h.kept hs.b0.size fun q hq hlt => hs.oth q hlt (hn q hq)
/-- A list of the law's own that lies outside the rack. -/
structure Lst (wr : World) (S : Nat → Prop) (v : Value) (xs : List Value) : Prop where
  r : Reads wr v xs
  c : capOk v
  n : ∀ q, v.ownBlock = some q → q < wr.heap.size ∧ ¬ S q
theorem Lst.stp {w w' : World} {S S' : Nat → Prop} {v : Value} {xs : List Value} (h : Lst w S v xs) (hs : Stp S S' w w') : Lst w' S' v xs :=
  ⟨h.r.stp hs fun q hq => (h.n q hq).2, h.c, fun q hq => ⟨Nat.lt_of_lt_of_le (h.n q hq).1 hs.b0.size, fun hq2 => by
    rcases hs.grow q hq2 with z | z
    · exact (h.n q hq).2 z
    · have := (h.n q hq).1; omega⟩⟩
theorem Lst.below {w w' : World} {S : Nat → Prop} {v : Value} {xs : List Value} (h : Lst w S v xs) (hb : Below w.heap.size w w') : Lst w' S v xs := h.stp (Stp.quiet hb)
theorem Lst.new {w w' : World} {S : Nat → Prop} {E : TypeId} {v : Value} {xs : List Value} (o : Own w' w.heap.size E v xs) (hS : ∀ q, S q → q < w.heap.size) : Lst w' S v xs :=
  ⟨o.reads, o.capOk, fun q hq => ⟨(o.o.lt q hq).2, fun h => by have := hS q h; have := (o.o.lt q hq).1; omega⟩⟩
theorem Lst.own {w' : World} {S : Nat → Prop} {B : Nat} {E : TypeId} {v : Value} {xs : List Value} (o : Own w' B E v xs) (n : ∀ q, v.ownBlock = some q → ¬ S q) : Lst w' S v xs :=
  ⟨o.reads, o.capOk, fun q hq => ⟨(o.o.lt q hq).2, n q hq⟩⟩
/-- A rack and a geometry beside it. -/
structure JW (w : World) (S : Nat → Prop) (wr : World) (ka n g : Nat) (K M B : Int) (R : Rk) : Prop where
  ra : RA w S wr ka n R
  gb : wr.heap[g]? = some (.cells #[.int .i64 K, .int .i64 M, .int .i64 B] 23 (0, 0))
  gn : ¬ S g
theorem heap_put (W : World) {p x : Nat} (h : x ≠ p) (i : Nat) (u : Value) : (W.setCell ⟨p, i, none⟩ u).heap[x]? = W.heap[x]? := Below.heap_setCell _ _ _ _ (fun e => h e)
theorem below_N (W : World) (k : Nat) : Below W.heap.size W (W.drewN k) := ⟨rfl, rfl, rfl, Nat.le_refl _, fun _ _ => rfl⟩
theorem Below.drewZ (w : World) : Below w.heap.size w w.drew := ⟨rfl, rfl, rfl, Nat.le_refl _, fun _ _ => rfl⟩
section
variable {w wr w' : World} {S S' : Nat → Prop} {ka n g : Nat} {K M B : Int} {R R' : Rk}
theorem JW.gl (h : JW w S wr ka n g K M B R) : g < wr.heap.size := (Array.getElem?_eq_some_iff.1 h.gb).1
theorem JW.stp (h : JW w S wr ka n g K M B R) (hs : Stp S S' wr w') (ha : RA w S' w' ka n R') : JW w S' w' ka n g K M B R' :=
  ⟨ha, (hs.oth g h.gl h.gn).trans h.gb, fun hg => by
    rcases hs.grow g hg with z | z
    · exact h.gn z
    · have := h.gl; omega⟩
theorem JW.after (h : JW w S wr ka n g K M B R) (hb : Below wr.heap.size wr w') : JW w S w' ka n g K M B R := h.stp (Stp.quiet hb) (h.ra.after hb)
theorem JW.put {p : Nat} (h : JW w S wr ka n g K M B R) (hp : w.heap.size ≤ p) (hg : g ≠ p) (hS : ¬ S p) (i : Nat) (u : Value) : JW w S (wr.setCell ⟨p, i, none⟩ u) ka n g K M B R :=
  ⟨RS.setO h.ra hp hS i u, (heap_put wr hg i u).trans h.gb, h.gn⟩
theorem JW.cells (h : JW w S wr ka n g K M B R) : wr.cell? ⟨g, 0, none⟩ = some (.int .i64 K) ∧ wr.cell? ⟨g, 1, none⟩ = some (.int .i64 M) ∧ wr.cell? ⟨g, 2, none⟩ = some (.int .i64 B) := ⟨heap_cell h.gb rfl, heap_cell h.gb rfl, heap_cell h.gb rfl⟩
end
section
variable {W W' : World} {S S' : Nat → Prop} {n p : Nat} {v : Value} {xs : List Value} {gone : List Bool}
theorem Lst.put (h : Lst W S v xs) (hq : ∀ q, v.ownBlock = some q → q ≠ p) (i : Nat) (u : Value) : Lst (W.setCell ⟨p, i, none⟩ u) S v xs :=
  ⟨h.r.kept (by simp) fun q e _ => heap_put W (hq q e) i u, h.c, fun q e => ⟨by simpa using (h.n q e).1, (h.n q e).2⟩⟩
/-- Flags of the law's own. -/
structure GN (W : World) (S : Nat → Prop) (p n : Nat) (gone : List Bool) : Prop where
  o : Own W p 4 (.slice (some ⟨p, 0, none⟩) n n) (bv gone)
  n : ¬ S p
theorem GN.stp (h : GN W S p n gone) (hs : Stp S S' W W') : GN W' S' p n gone := ⟨h.o.sameBlock (hs.oth p h.o.lt.2 h.n), fun z => by
  rcases hs.grow p z with y | y
  · exact h.n y
  · have := h.o.lt.2; omega⟩
theorem GN.after (h : GN W S p n gone) (hb : Below W.heap.size W W') : GN W' S p n gone := h.stp (Stp.quiet hb)
theorem GN.put (h : GN W S p n gone) (i : Nat) : GN (W.setCell ⟨p, i, none⟩ (.bool true)) S p n (gone.set i true) := ⟨by rw [bv_set]; exact h.o.set i _, h.n⟩
theorem GN.cell (h : GN W S p n gone) {i : Nat} (hi : i < gone.length) : W.cell? ⟨p, i, none⟩ = some (.bool (gone.getD i false)) := by
  have := h.o.cell (i := i) (by rw [bv_length]; exact hi)
  rwa [bv_getD _ hi] at this
theorem GN.fro (h : GN W S p n gone) (i : Nat) : W.frozen? ⟨p, i, none⟩ = false := h.o.frozen i
end
theorem bool_store {W : World} {p j : Nat} {u : Bool} {old : Value} (hc : W.cell? ⟨p, j, none⟩ = some old) (hf : W.frozen? ⟨p, j, none⟩ = false) : (Instr.storeAt 4 (.pointer (some ⟨p, j, none⟩)) (.bool u)).run Tryz.prog W = .ok () (W.setCell ⟨p, j, none⟩ (.bool u)) := by
  have hT : ∀ W, (isAgg 4).run Tryz.prog W = .ok false W := fun W => by kernel_rfl
  have ha : (⟨p, j, none⟩ : Addr).add 0 = ⟨p, j, none⟩ := by simp [Addr.add]
  simp [go_sem, Instr.storeAt, Instr.sureAddr, asAddr, storeVar, Value.cells, storeCells, ha, stored, hT W, hc, hf]
theorem slc_at0 {P : Program} {T E : TypeId} (hT : P.underlying T = some (.slice E)) (hs : ∀ W, (sizeOf E).run P W = .ok 1 W) (b n c i : Nat) (hi : i < n) (W : World) : (Instr.indexAt T (.slice (some ⟨b, 0, none⟩) n c) (.int .i64 (i : Int))).run P W = .ok (.pointer (some ⟨b, i, none⟩)) W := by
  have := slc_at hT hs b 0 n c i hi W
  rwa [Nat.zero_add] at this
section
variable {P : Program} {ops : Array Oper} {o : Oper} {a : Act} {S : World → Prop}
theorem yieldsIf_hi_run {ty : TypeId} {p iv v : Value} (hw : Region.wanted o (yielded ops a.tmps) = true) (x y : Operand) (ho : o.op = .slice ty x none (some y) none) (hx : a.eval x = p) (hy : a.eval y = iv) (hS : ∀ w, (Instr.sliceAt ty p none (some iv) none).run P w = .ok v w) : YieldsIf P ops S o v a :=
  .inl ⟨hw, fun w hw' => by
    unfold execOp
    simp only [ho, hx, hy, Option.map_none, Option.map_some, Sem.run_bind, Sem.run_pure, hS w, Result.andThen_ok]⟩
theorem yieldsIf_lo_run {ty : TypeId} {p iv v : Value} (hw : Region.wanted o (yielded ops a.tmps) = true) (x y : Operand) (ho : o.op = .slice ty x (some y) none none) (hx : a.eval x = p) (hy : a.eval y = iv) (hS : ∀ w, (Instr.sliceAt ty p (some iv) none none).run P w = .ok v w) : YieldsIf P ops S o v a :=
  .inl ⟨hw, fun w hw' => by
    unfold execOp
    simp only [ho, hx, hy, Option.map_none, Option.map_some, Sem.run_bind, Sem.run_pure, hS w, Result.andThen_ok]⟩
end
theorem step_appendD {P : Program} {ops : Array Oper} {o : Oper} {a : Act} {w w' : World} {K : Act → World → Prop} {Q : Exit → Act → World → Prop} {E : Prop} {t ty : TypeId} {v xv v' : Value}
    (hr : (Builtin.append_ #[t, t] ty #[v, xv]).run P w = .ok v' w') (s x : Operand) (hg : o.guard = none) (hop : o.op = Op.call { callee := Callee.builtin Builtin.append, args := #[s, x], argTypes := #[t, t] })
    (hty : o.type = ty) (hs : a.eval s = v) (hx : a.eval x = xv) {d : Option Tmp} (hd : o.dst = d) (hK : K (a.put d v') w') : if Region.wanted o (yielded ops a.tmps) = true then Oper.wp P o a w K Q else E := by
  have hw : Region.wanted o (yielded ops a.tmps) = true := by simp [Region.wanted, hg]
  rw [if_pos hw]
  subst hd
  subst hty
  unfold Oper.wp
  simp [execOp, hop, resolve, invoke, builtin, hs, hx, hr, Result.andThen]
  exact hK
theorem slice_hi {P : Program} {T E : TypeId} (hT : P.underlying T = some (.slice E)) (hz : ∀ W, (sizeOf E).run P W = .ok 1 W) (a : Option Addr) (n c p : Nat) (hp : p ≤ c) (W : World) : (Instr.slice T (.slice a n c) none (some (.int .i64 (p : Int))) none).run P W = .ok (.slice a p c) W := by
  have h1 : (p : Int) ≤ (c : Int) := by omega
  cases a with
  | none => simp [Instr.slice, run_underlying hT, Instr.sliceBounds, Instr.sliceBound, asIntOf, hz, hp]
  | some a =>
    simp [Instr.slice, run_underlying hT, Instr.sliceBounds, Instr.sliceBound, asIntOf, hz, hp]
    intro _
    cases a
    unfold Addr.add
    split <;> simp_all
theorem slice_hi_at {P : Program} {T E : TypeId} (hT : P.underlying T = some (.slice E)) (hz : ∀ W, (sizeOf E).run P W = .ok 1 W) (a : Option Addr) (n c p : Nat) (hp : p ≤ c) (W : World) : (Instr.sliceAt T (.slice a n c) none (some (.int .i64 (p : Int))) none).run P W = .ok (.slice a p c) W := by
  have := slice_hi hT hz a n c p hp W
  simp [Instr.sliceAt, run_underlying hT, this]
theorem four4 (w : World) (a b c d : Obj) : ((((w.alloc a).alloc b).alloc c).alloc d).heap[w.heap.size]? = some a ∧ ((((w.alloc a).alloc b).alloc c).alloc d).heap[w.heap.size + 1]? = some b ∧ ((((w.alloc a).alloc b).alloc c).alloc d).heap[w.heap.size + 1 + 1]? = some c ∧ ((((w.alloc a).alloc b).alloc c).alloc d).heap[w.heap.size + 1 + 1 + 1]? = some d ∧ ((((w.alloc a).alloc b).alloc c).alloc d).heap.size = w.heap.size + 1 + 1 + 1 + 1 ∧ Below w.heap.size w ((((w.alloc a).alloc b).alloc c).alloc d) := by
  have e1 : (w.alloc a).heap.size = w.heap.size + 1 := by simp
  have e2 : ((w.alloc a).alloc b).heap.size = w.heap.size + 1 + 1 := by simp
  have e3 : (((w.alloc a).alloc b).alloc c).heap.size = w.heap.size + 1 + 1 + 1 := by simp
  have f1 := heap_alloc_new w a
  have f2 := heap_alloc_new (w.alloc a) b
  have f3 := heap_alloc_new ((w.alloc a).alloc b) c
  have f4 := heap_alloc_new (((w.alloc a).alloc b).alloc c) d
  rw [e1] at f2
  rw [e2] at f3
  rw [e3] at f4
  have b1 : Below w.heap.size w (w.alloc a) := (Below.refl _ _).alloc (Nat.le_refl _) _
  have b2 : Below (w.alloc a).heap.size (w.alloc a) ((w.alloc a).alloc b) := (Below.refl _ _).alloc (Nat.le_refl _) _
  have b3 : Below ((w.alloc a).alloc b).heap.size ((w.alloc a).alloc b) (((w.alloc a).alloc b).alloc c) := (Below.refl _ _).alloc (Nat.le_refl _) _
  have b4 : Below (((w.alloc a).alloc b).alloc c).heap.size (((w.alloc a).alloc b).alloc c) ((((w.alloc a).alloc b).alloc c).alloc d) := (Below.refl _ _).alloc (Nat.le_refl _) _
  have b34 := b3.trans (b4.mono b3.size)
  have b24 := b2.trans (b34.mono b2.size)
  exact ⟨(b24.block _ (by omega)).trans f1, (b34.block _ (by omega)).trans f2, (b4.block _ (by omega)).trans f3, f4, by simp, b1.trans (b24.mono b1.size)⟩
theorem Reads.keptN {w w' : World} {v : Value} {xs : List Value} (h : Reads w v xs) (hs : w.heap.size ≤ w'.heap.size) (e : xs ≠ [] → ∀ q, v.ownBlock = some q → q < w.heap.size → w'.heap[q]? = w.heap[q]?) : Reads w' v xs := by
  by_cases h0 : xs = []
  · subst h0
    obtain ⟨a, c, hf⟩ := h.form
    exact .inl ⟨⟨a, c, hf⟩, rfl⟩
  · exact h.kept hs (e h0)
/-- Numbers that lie outside a rack, if there are any. -/
structure LsN (wr : World) (S : Nat → Prop) (v : Value) (l : List Int) : Prop where
  r : Reads wr v (l.map (.int .i64))
  n : l ≠ [] → ∀ q, v.ownBlock = some q → q < wr.heap.size ∧ ¬ S q
theorem LsN.stp {w w' : World} {S S' : Nat → Prop} {v : Value} {l : List Int} (h : LsN w S v l) (hs : Stp S S' w w') : LsN w' S' v l :=
  ⟨h.r.keptN hs.b0.size fun h0 q hq hlt => hs.oth q hlt (h.n (fun e => h0 (by rw [e]; rfl)) q hq).2, fun h0 q hq => ⟨Nat.lt_of_lt_of_le (h.n h0 q hq).1 hs.b0.size, fun hq2 => by
    rcases hs.grow q hq2 with z | z
    · exact (h.n h0 q hq).2 z
    · have := (h.n h0 q hq).1; omega⟩⟩
theorem LsN.after {w w' : World} {S : Nat → Prop} {v : Value} {l : List Int} (h : LsN w S v l) (hb : Below w.heap.size w w') : LsN w' S v l := h.stp (Stp.quiet hb)
theorem LsN.own {w w' : World} {S : Nat → Prop} {v : Value} {l : List Int} (o : Own w' w.heap.size 3 v (l.map (.int .i64))) (hS : ∀ q, S q → q < w.heap.size) : LsN w' S v l :=
  ⟨o.reads, fun _ q hq => ⟨(o.o.lt q hq).2, fun h => by have := hS q h; have := (o.o.lt q hq).1; omega⟩⟩
end Go.Proofs.YtfadglcpapiklaaGreatDoor
