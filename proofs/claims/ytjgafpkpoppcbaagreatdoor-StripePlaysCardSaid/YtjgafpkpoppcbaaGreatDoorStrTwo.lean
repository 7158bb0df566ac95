import Derived.Test.YtjgafpkpoppcbaaGreatDoorStrHarm
set_option linter.unusedVariables false
set_option linter.unusedSimpArgs false
namespace Go.Proofs.YtjgafpkpoppcbaaGreatDoor
open Go.RowKit
set_option maxRecDepth 100000
def UU (S T : Nat → Prop) (x : Nat) : Prop := S x ∨ T x
section
variable {w W W' : World} {S S' T T' : Nat → Prop} {ka kq n g p b : Nat} {K M B N : Int} {R R' Q Q' : Rk} {v dv : Value} {xs : List Value} {D : List ByteArray}
theorem Stp.left (h : Stp S S' W W') (T : Nat → Prop) : Stp (UU S T) (UU S' T) W W' := ⟨h.b0, fun k hk hn => h.oth k hk fun z => hn (.inl z), fun k hk => by
  rcases hk with z | z
  · rcases h.grow k z with y | y
    · exact .inl (.inl y)
    · exact .inr y
  · exact .inl (.inr z)⟩
theorem Stp.right (h : Stp T T' W W') (S : Nat → Prop) : Stp (UU S T) (UU S T') W W' := ⟨h.b0, fun k hk hn => h.oth k hk fun z => hn (.inr z), fun k hk => by
  rcases hk with z | z
  · exact .inl (.inl z)
  · rcases h.grow k z with y | y
    · exact .inl (.inr y)
    · exact .inr y⟩
theorem Lst.mono (h : Lst W S v xs) (hm : ∀ x, T x → S x) : Lst W T v xs := ⟨h.r, h.c, fun q hq => ⟨(h.n q hq).1, fun z => (h.n q hq).2 (hm q z)⟩⟩
structure PS (w W : World) (S T : Nat → Prop) (ka kq n g b : Nat) (K M B : Int) (R Q : Rk) (N : Int) (dv : Value) (D : List ByteArray) : Prop where
  k : SW w S W ka n g K M B R
  q : SW w T W kq n g K M B Q
  d : ∀ x, S x → ¬ T x
  s : W.heap[b]? = some (.cells #[.int .i64 N, dv] 42 (0, 0))
  sn : ¬ UU S T b
  dl : Lst W (UU S T) dv (tx D)
theorem PS.bl (h : PS w W S T ka kq n g b K M B R Q N dv D) : b < W.heap.size := (Array.getElem?_eq_some_iff.1 h.s).1
theorem PS.stpK (h : PS w W S T ka kq n g b K M B R Q N dv D) (hs : Stp S S' W W') (ha : RA w S' W' ka n R') : PS w W' S' T ka kq n g b K M B R' Q N dv D := by
  have hk := h.k.stp hs ha
  have hq := RA.stepR h.q.ra hs (RA.from h.k.ra) (fun x z y => h.d x y z)
  refine ⟨hk, ⟨hq.1, hk.gb, h.q.gn, hk.tb, h.q.two⟩, fun x z y => hq.2 x y z, (hs.oth b h.bl fun z => h.sn (.inl z)).trans h.s, fun z => ?_, h.dl.stp (hs.left T)⟩
  rcases (hs.left T).grow b z with y | y
  · exact h.sn y
  · have := h.bl; omega
theorem PS.stpQ (h : PS w W S T ka kq n g b K M B R Q N dv D) (hs : Stp T T' W W') (ha : RA w T' W' kq n Q') : PS w W' S T' ka kq n g b K M B R Q' N dv D := by
  have hq := h.q.stp hs ha
  have hk := RA.stepR h.k.ra hs (RA.from h.q.ra) h.d
  refine ⟨⟨hk.1, hq.gb, h.k.gn, hq.tb, h.k.two⟩, hq, hk.2, (hs.oth b h.bl fun z => h.sn (.inr z)).trans h.s, fun z => ?_, h.dl.stp (hs.right S)⟩
  rcases (hs.right S).grow b z with y | y
  · exact h.sn y
  · have := h.bl; omega
theorem PS.after (h : PS w W S T ka kq n g b K M B R Q N dv D) (hb : Below W.heap.size W W') : PS w W' S T ka kq n g b K M B R Q N dv D := h.stpK (Stp.quiet hb) (h.k.ra.after hb)
theorem PS.put (h : PS w W S T ka kq n g b K M B R Q N dv D) (hp : w.heap.size ≤ p) (hg : g ≠ p) (hb : b ≠ p) (hS : ¬ UU S T p) (hd : ∀ q, dv.ownBlock = some q → q ≠ p) (i : Nat) (u : Value) : PS w (W.setCell ⟨p, i, none⟩ u) S T ka kq n g b K M B R Q N dv D :=
  ⟨h.k.put hp hg (fun z => hS (.inl z)) i u, h.q.put hp hg (fun z => hS (.inr z)) i u, h.d, (heap_put W hb i u).trans h.s, h.sn, h.dl.put hd i u⟩
theorem PS.cells (h : PS w W S T ka kq n g b K M B R Q N dv D) : W.cell? ⟨b, 0, none⟩ = some (.int .i64 N) ∧ W.cell? ⟨b, 1, none⟩ = some dv := ⟨heap_cell h.s rfl, heap_cell h.s rfl⟩
theorem stripe_load (h : W.heap[b]? = some (.cells #[.int .i64 N, dv] 42 (0, 0))) : (Instr.loadAt 42 (.pointer (some ⟨b, 0, none⟩))).run Tryz.prog W = .ok (.agg #[.int .i64 N, dv]) W :=
  whole_load Tryz.underlying42 rfl (by kernel_rfl) h
end
theorem bool_store {W : World} {p j : Nat} {u : Bool} {old : Value} (hc : W.cell? ⟨p, j, none⟩ = some old) (hf : W.frozen? ⟨p, j, none⟩ = false) : (Instr.storeAt 4 (.pointer (some ⟨p, j, none⟩)) (.bool u)).run Tryz.prog W = .ok () (W.setCell ⟨p, j, none⟩ (.bool u)) := by
  have hT : ∀ W, (isAgg 4).run Tryz.prog W = .ok false W := fun W => by kernel_rfl
  have ha : (⟨p, j, none⟩ : Addr).add 0 = ⟨p, j, none⟩ := by simp [Addr.add]
  simp [go_sem, Instr.storeAt, Instr.sureAddr, asAddr, storeVar, Value.cells, storeCells, ha, stored, hT W, hc, hf]
theorem sum_km (k m : Nat) (hk : k ≤ 4) (hm : m ≤ 3) (W : World) : (binOp .add 3 (.int .i64 (k : Int)) (.int .i64 (m : Int))).run Tryz.prog W = .ok (.int .i64 ((k : Int) + (m : Int))) W := by
  have h : IntKind.i64.wrap ((k : Int) + (m : Int)) = (k : Int) + (m : Int) := IntWalk.i64_in _ ⟨by omega, by omega⟩
  simp [binOp, Op.intArith, h]
theorem slc_at0 {P : Program} {T E : TypeId} (hT : P.underlying T = some (.slice E)) (hs : ∀ W, (sizeOf E).run P W = .ok 1 W) (b n c i : Nat) (hi : i < n) (W : World) : (Instr.indexAt T (.slice (some ⟨b, 0, none⟩) n c) (.int .i64 (i : Int))).run P W = .ok (.pointer (some ⟨b, i, none⟩)) W := by
  have := slc_at hT hs b 0 n c i hi W
  rwa [Nat.zero_add] at this
section
variable {P : Program} {ops : Array Oper} {o : Oper} {a : Act} {S : World → Prop}
theorem yieldsIf_hi_run {ty : TypeId} {p iv v : Value} (hw : Region.wanted o (yielded ops a.tmps) = true) (x y : Operand) (ho : o.op = .slice ty x none (some y) none) (hx : a.eval x = p) (hy : a.eval y = iv) (hS : ∀ w, (Instr.sliceAt ty p none (some iv) none).run P w = .ok v w) : YieldsIf P ops S o v a :=
  .inl ⟨hw, fun w hw' => by
    unfold execOp
    simp only [ho, hx, hy, Option.map_none, Option.map_some, Sem.run_bind, Sem.run_pure, hS w, Result.andThen_ok]⟩
theorem yieldsIf_lo_run {ty : TypeId} {p iv v : Value} (hw : Region.wanted o (yielded ops a.tmps) = true) (x y : Operand) (ho : o.op = .slice ty x (some y) none none) (hx : a.eval x = p) (hy : a.eval y = iv) (hS : ∀ w, (Instr.sliceAt ty p (some iv) none none).run P w = .ok v w) : YieldsIf P ops S o v a :=
  .inl ⟨hw, fun w hw' => by
    unfold execOp
    simp only [ho, hx, hy, Option.map_none, Option.map_some, Sem.run_bind, Sem.run_pure, hS w, Result.andThen_ok]⟩
end
theorem step_appendD {P : Program} {ops : Array Oper} {o : Oper} {a : Act} {w w' : World} {K : Act → World → Prop} {Q : Exit → Act → World → Prop} {E : Prop} {t ty : TypeId} {v xv v' : Value}
    (hr : (Builtin.append_ #[t, t] ty #[v, xv]).run P w = .ok v' w') (s x : Operand) (hg : o.guard = none) (hop : o.op = Op.call { callee := Callee.builtin Builtin.append, args := #[s, x], argTypes := #[t, t] })
    (hty : o.type = ty) (hs : a.eval s = v) (hx : a.eval x = xv) {d : Option Tmp} (hd : o.dst = d) (hK : K (a.put d v') w') : if Region.wanted o (yielded ops a.tmps) = true then Oper.wp P o a w K Q else E := by
  have hw : Region.wanted o (yielded ops a.tmps) = true := by simp [Region.wanted, hg]
  rw [if_pos hw]
  subst hd
  subst hty
  unfold Oper.wp
  simp [execOp, hop, resolve, invoke, builtin, hs, hx, hr, Result.andThen]
  exact hK
theorem slice_hi {P : Program} {T E : TypeId} (hT : P.underlying T = some (.slice E)) (hz : ∀ W, (sizeOf E).run P W = .ok 1 W) (a : Option Addr) (n c p : Nat) (hp : p ≤ c) (W : World) : (Instr.slice T (.slice a n c) none (some (.int .i64 (p : Int))) none).run P W = .ok (.slice a p c) W := by
  have h1 : (p : Int) ≤ (c : Int) := by omega
  cases a with
  | none => simp [Instr.slice, run_underlying hT, Instr.sliceBounds, Instr.sliceBound, asIntOf, hz, hp]
  | some a =>
    simp [Instr.slice, run_underlying hT, Instr.sliceBounds, Instr.sliceBound, asIntOf, hz, hp]
    intro _
    cases a
    unfold Addr.add
    split <;> simp_all
theorem slice_hi_at {P : Program} {T E : TypeId} (hT : P.underlying T = some (.slice E)) (hz : ∀ W, (sizeOf E).run P W = .ok 1 W) (a : Option Addr) (n c p : Nat) (hp : p ≤ c) (W : World) : (Instr.sliceAt T (.slice a n c) none (some (.int .i64 (p : Int))) none).run P W = .ok (.slice a p c) W := by
  have := slice_hi hT hz a n c p hp W
  simp [Instr.sliceAt, run_underlying hT, this]
theorem parts_any {w : World} {B : Nat} {v : Value} {rs : List Int} (h : Own w B 3 v (rs.map (.int .i64))) {c : Nat} (hc : c < rs.length) :
    ∃ u1 u2, (∀ W, (Instr.sliceAt 26 v none (some (.int .i64 (c : Int))) none).run Tryz.prog W = .ok u1 W) ∧ (∀ W, (Instr.sliceAt 26 v (some (.int .i64 ((c : Int) + 1))) none none).run Tryz.prog W = .ok u2 W) ∧ Reads w u1 ((rs.take c).map (.int .i64)) ∧ Reads w u2 ((rs.drop (c + 1)).map (.int .i64)) := by
  have hs : ∀ W, (sizeOf 3).run Tryz.prog W = .ok 1 W := fun W => by kernel_rfl
  rcases h.o.2 with ⟨_, h0⟩ | ⟨g, cap, cur, rfl, h2, h3, h4, h5, h6, h7⟩
  · rw [List.length_map] at h0; omega
  · rw [List.length_map] at *
    have hrd := h.reads
    rcases hrd with ⟨⟨a0, c0, e⟩, e0⟩ | ⟨b, off, cap2, e, hb, hcell⟩
    · have : rs = [] := by simpa using e0
      subst this; simp at hc
    · obtain ⟨rfl, rfl⟩ : g = b ∧ off = 0 := by
        injection e with e1 e2 e3
        injection e1 with e1
        injection e1 with e1 e2
        exact ⟨e1, e2.symm⟩
      have hcell' : ∀ j (hj : j < rs.length), w.cell? ⟨g, j, none⟩ = some (.int .i64 rs[j]) := fun j hj => by
        have := hcell j (by rw [List.length_map]; exact hj)
        rw [Nat.zero_add] at this
        rw [this]; simp [List.getD_eq_getElem?_getD, hj]
      have e1 : (0 : Int) ≤ (c : Int) + 1 := by omega
      have e2 : (c : Int) + 1 ≤ (rs.length : Int) := by omega
      have e3 : ((c : Int) + 1).toNat = c + 1 := by omega
      refine ⟨.slice (some ⟨g, 0, none⟩) c cap, .slice (some (if cap - (c + 1) = 0 then ⟨g, 0, none⟩ else ⟨g, c + 1, none⟩)) (rs.length - (c + 1)) (cap - (c + 1)), fun W => slice_hi_at Tryz.underlying26 hs _ _ _ _ (by omega) W, fun W => ?_, ?_, ?_⟩
      · have hadd : (⟨g, 0, none⟩ : Addr).add (c + 1) = ⟨g, c + 1, none⟩ := (addr_at g 0 (c + 1)).trans (by rw [Nat.zero_add])
        simp [Instr.sliceAt, Instr.slice, run_underlying Tryz.underlying26, Instr.sliceBounds, Instr.sliceBound, asIntOf, hs W, e1, e2, e3]
        by_cases hk : cap - (c + 1) = 0
        · simp [hk, show (cap = c + 1) by omega]
        · simp [hk, hadd, show ¬ (cap = c + 1) by omega]
      · by_cases hc0 : c = 0
        · subst hc0; exact .inl ⟨⟨_, _, rfl⟩, rfl⟩
        · refine .inr ⟨g, 0, cap, ?_, hb, fun j hj => ?_⟩
          · rw [List.length_map, List.length_take, Nat.min_eq_left (by omega)]
          · rw [List.length_map, List.length_take] at hj
            rw [Nat.zero_add, hcell' j (by omega)]; simp [List.getD_eq_getElem?_getD, show j < c by omega, show j < rs.length by omega]
      · by_cases hc0 : rs.length - (c + 1) = 0
        · exact .inl ⟨⟨_, _, by rw [hc0]⟩, by rw [List.drop_eq_nil_of_le (by omega)]; rfl⟩
        · refine .inr ⟨g, c + 1, cap - (c + 1), ?_, hb, fun j hj => ?_⟩
          · rw [List.length_map, List.length_drop, if_neg (by omega)]
          · rw [List.length_map, List.length_drop] at hj
            rw [hcell' (c + 1 + j) (by omega)]; simp [List.getD_eq_getElem?_getD, show c + 1 + j < rs.length by omega]
theorem sum_one (c : Nat) (hc : c ≤ 1000) (W : World) : (binOp .add 3 (.int .i64 (c : Int)) (.int .i64 1)).run Tryz.prog W = .ok (.int .i64 ((c : Int) + 1)) W := by
  have h : IntKind.i64.wrap ((c : Int) + 1) = (c : Int) + 1 := IntWalk.i64_in _ ⟨by omega, by omega⟩
  simp [binOp, Op.intArith, h]
end Go.Proofs.YtjgafpkpoppcbaaGreatDoor
