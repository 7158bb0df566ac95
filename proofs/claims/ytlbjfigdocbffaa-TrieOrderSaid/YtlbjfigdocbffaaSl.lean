/- Rows of values: what a slice reads as, and what a call owns, for whatever program. -/
import Derived.WalkKit
import Derived.Below
import Derived.Laws.AppendOwn
import Derived.OwnWalk
import Derived.Deep.AppendLies
import Derived.Lib.Hide
import Derived.Deep.Draws
namespace Go.Proofs.Ytlbjfigdocbffaa
open Go.RowKit
set_option linter.unusedVariables false
set_option linter.unusedSimpArgs false

theorem belowN {B : Nat} {a w : World} (h : Below B a w) (n : Nat) : Below B a (w.drewN n) := h.trans ⟨rfl, rfl, rfl, Nat.le_refl _, fun _ _ => rfl⟩
theorem addr_at (b o j : Nat) : (⟨b, o, none⟩ : Addr).add j = ⟨b, o + j, none⟩ := by
  unfold Addr.add; split <;> simp_all
/-- What a slice reads as. -/
def Reads (w : World) (v : Value) (xs : List Value) : Prop :=
  ((∃ a c, v = .slice a 0 c) ∧ xs = []) ∨
  ∃ b off cap, v = .slice (some ⟨b, off, none⟩) xs.length cap ∧ b < w.heap.size ∧ ∀ i, i < xs.length → w.cell? ⟨b, off + i, none⟩ = some (xs.getD i .nilFunc)
theorem Reads.below {w w' : World} {v : Value} {xs : List Value} (h : Reads w v xs) (hb : Below w.heap.size w w') : Reads w' v xs := by
  rcases h with h | ⟨b, off, cap, h1, h2, h3⟩
  · exact .inl h
  · exact .inr ⟨b, off, cap, h1, Nat.lt_of_lt_of_le h2 hb.size, fun i hi => by rw [hb.cell (p := ⟨b, off + i, none⟩) h2]; exact h3 i hi⟩
theorem Reads.len_run {P : Program} {T E : TypeId} (hT : P.underlying T = some (.slice E)) {w : World} {v : Value} {xs : List Value} (h : Reads w v xs) (ty : TypeId) (w' : World) :
    (Builtin.len_ #[T] ty #[v]).run P w' = .ok (.int .i64 (xs.length : Int)) w' := by
  rcases h with ⟨⟨a, c, rfl⟩, rfl⟩ | ⟨b, off, cap, rfl, h2, h3⟩
  · simp [Builtin.len_, run_underlying hT, goInt]
  · simp [Builtin.len_, run_underlying hT, goInt]
/-- What a call owns, from block B on: a slice that is nil or stands at the head of a row. -/
structure Own (w : World) (B : Nat) (E : TypeId) (v : Value) (xs : List Value) : Prop where
  o : w.ownsRow B E 1 v xs.length xs
theorem Own.nil (w : World) (B : Nat) (E : TypeId) : Own w B E (.slice none 0 0) [] := ⟨World.ownsRow_nil _ _ _ _⟩
theorem Own.form {w : World} {B : Nat} {E : TypeId} {v : Value} {xs : List Value} (h : Own w B E v xs) (hn : 0 < xs.length) : ∃ g cap, v = .slice (some ⟨g, 0, none⟩) xs.length cap ∧ B ≤ g ∧ g < w.heap.size := h.o.form hn
theorem Own.cell {w : World} {B : Nat} {E : TypeId} {g n cap : Nat} {xs : List Value} (h : Own w B E (.slice (some ⟨g, 0, none⟩) n cap) xs) {i : Nat} (hi : i < xs.length) : w.cell? ⟨g, i, none⟩ = some (xs.getD i .nilFunc) := by
  have hn : n = xs.length := by rcases h.o.2 with ⟨h1, _⟩ | ⟨_, _, _, h1, _⟩ <;> simp at h1; exact h1.2.1
  subst hn
  rw [h.o.cellAt i (by omega), List.getD_eq_getElem?_getD, List.getElem?_eq_getElem hi]; rfl
theorem Own.frozen {w : World} {B : Nat} {E : TypeId} {g n cap : Nat} {xs : List Value} (h : Own w B E (.slice (some ⟨g, 0, none⟩) n cap) xs) (i : Nat) : w.frozen? ⟨g, i, none⟩ = false := by
  have hn : n = xs.length := by rcases h.o.2 with ⟨h1, _⟩ | ⟨_, _, _, h1, _⟩ <;> simp at h1; exact h1.2.1
  subst hn
  exact h.o.frozenAt i
theorem Own.lt {w : World} {B : Nat} {E : TypeId} {g n cap : Nat} {xs : List Value} (h : Own w B E (.slice (some ⟨g, 0, none⟩) n cap) xs) : B ≤ g ∧ g < w.heap.size := h.o.lt g rfl
theorem Own.set {w : World} {B : Nat} {E : TypeId} {g n cap : Nat} {xs : List Value} (h : Own w B E (.slice (some ⟨g, 0, none⟩) n cap) xs) (i : Nat) (u : Value) : Own (w.setCell ⟨g, i, none⟩ u) B E (.slice (some ⟨g, 0, none⟩) n cap) (xs.set i u) := by
  have hn : n = xs.length := by rcases h.o.2 with ⟨h1, _⟩ | ⟨_, _, _, h1, _⟩ <;> simp at h1; exact h1.2.1
  subst hn
  refine ⟨?_⟩
  rw [List.length_set]
  exact (h.o.stored i u).1
theorem Own.reads {w : World} {B : Nat} {E : TypeId} {v : Value} {xs : List Value} (h : Own w B E v xs) : Reads w v xs := by
  rcases h.o.2 with ⟨h1, h2⟩ | ⟨g, cap, cur, h1, h2, h3, h4, h5, h6, h7⟩
  · exact .inl ⟨⟨_, _, h1⟩, List.eq_nil_of_length_eq_zero h2⟩
  · refine .inr ⟨g, 0, cap, h1, (Array.getElem?_eq_some_iff.1 h3).1, fun i hi => ?_⟩
    subst h1
    rw [Nat.zero_add]; exact h.cell hi
theorem Own.drew {w : World} {B : Nat} {E : TypeId} {v : Value} {xs : List Value} (h : Own w B E v xs) : Own w.drew B E v xs := ⟨h.o.drew⟩
theorem Own.mono {w : World} {B B' : Nat} {E : TypeId} {v : Value} {xs : List Value} (h : Own w B E v xs) (hB : B' ≤ B) : Own w B' E v xs :=
  ⟨h.o.1, h.o.2.imp id fun ⟨g, cap, cur, h1, h2, h3⟩ => ⟨g, cap, cur, h1, Nat.le_trans hB h2, h3⟩⟩
theorem Own.below {w w' : World} {B C : Nat} {E : TypeId} {v : Value} {xs : List Value} (h : Own w B E v xs) (hb : Below C w w') (hC : ∀ k, v.ownBlock = some k → k < C) : Own w' B E v xs := by
  refine ⟨h.o.1, ?_⟩
  rcases h.o.2 with h1 | ⟨g, cap, cur, h1, h2, h3, h4⟩
  · exact .inl h1
  · exact .inr ⟨g, cap, cur, h1, h2, by rw [hb.block g (hC g (by rw [h1]; rfl))]; exact h3, h4⟩
theorem Own.after {w w' : World} {B : Nat} {E : TypeId} {v : Value} {xs : List Value} (h : Own w B E v xs) (hb : Below w.heap.size w w') : Own w' B E v xs := h.below hb fun k hk => (h.o.lt k hk).2
theorem Own.alloc {w : World} {B : Nat} {E : TypeId} {v : Value} {xs : List Value} (h : Own w B E v xs) (o : Obj) : Own (w.alloc o) B E v xs := ⟨h.o.alloc o⟩
theorem Own.setOther {w : World} {B : Nat} {E : TypeId} {v : Value} {xs : List Value} (h : Own w B E v xs) {a : Addr} (hne : v.ownBlock ≠ some a.block) (u : Value) : Own (w.setCell a u) B E v xs := by
  refine ⟨h.o.1, ?_⟩
  rcases h.o.2 with h1 | ⟨g, cap, cur, h1, h2, h3, h4⟩
  · exact .inl h1
  · refine .inr ⟨g, cap, cur, h1, h2, ?_, h4⟩
    rw [Below.heap_setCell _ _ _ _ (fun e => hne (by rw [h1, ← e]; rfl))]; exact h3
/-- One more. -/
theorem Own.push {P : Program} {T E : TypeId} {i : TypeInfo} {z : Value} {bytes : Nat} (hT : P.underlying T = some (.slice E)) (hi : P.info? E = some i) (hz : i.zero = some z) (hs : i.size = 1) (hy : i.bytes = bytes) (hzs : z.cells.size = 1)
    {w : World} {B : Nat} {v : Value} {xs : List Value} (h : Own w B E v xs) (x : Value) (hx : x.oneCell' = true) (hB : B ≤ w.heap.size) (hm : (xs.length + 1) * bytes ≤ 140737488355328) (hl : xs.length + 1 ≤ 140737488355328) :
    ∃ v' w', (Builtin.append_ #[T, T] T #[v, .slice (some ⟨w.heap.size, 0, none⟩) 1 1]).run P (w.alloc (.cells #[x] E)) = .ok v' w' ∧ Own w' B E v' (xs ++ [x]) ∧ Below B w w' := by
  obtain ⟨v', w', h1, h2, h3, h4⟩ := run_append_own (P := P) (w.alloc (.cells #[x] E)) B T T E i z 1 bytes hT hi hz hs hy hzs (by decide) v xs.length xs (h.o.alloc _) ⟨w.heap.size, 0, none⟩ 1 1 [x] rfl
    (fun j u hj => by
      match j, hj with
      | 0, hj => simp at hj; subst hj; rw [addr_at, World.cell?_alloc_mark]; simp)
    (fun u hu => by simp at hu; subst hu; exact hx) (by unfold maxLen; omega) hm (by simp; omega)
  refine ⟨v', w', h1, ⟨by rw [List.length_append]; exact h2⟩, ((Below.refl B w).alloc hB _).grown h3 (by simp; omega) (fun k hk => (h.o.lt k hk).1)⟩
/-- An append whose run is known. -/
theorem wpList_append_run {P : Program} {w : World} {ops : Array Oper} {rest : List Oper} {o : Oper} {a : Act} {Q : Exit → Act → World → Prop} {t ty : TypeId} {v xv v' : Value} {w' : World}
    (hr : (Builtin.append_ #[t, t] ty #[v, xv]).run P w = .ok v' w') (s x : Operand) (hgd : o.guard = none) (ho : o.op = Op.call { callee := Callee.builtin Builtin.append, args := #[s, x], argTypes := #[t, t] })
    (hty : o.type = ty) (hs : a.eval s = v) (hx : a.eval x = xv) (h : wpList P ops Q rest (a.put o.dst v') w') : wpList P ops Q (o :: rest) a w := by
  subst hty
  refine wpList_plain hgd fun K hK => ?_
  unfold Oper.wp
  simp [execOp, ho, resolve, invoke, builtin, hs, hx, hr, Result.andThen]
  exact hK _ _ h
/-- A list as a slice of its own. -/
theorem Reads.copy_run {P : Program} {T E : TypeId} {i : TypeInfo} {z : Value} {bytes : Nat} (hT : P.underlying T = some (.slice E)) (hi : P.info? E = some i) (hz : i.zero = some z) (hs : i.size = 1) (hy : i.bytes = bytes) (hzs : z.cells.size = 1)
    {w : World} {v : Value} {xs : List Value} (h : Reads w v xs) (hx : ∀ x ∈ xs, x.oneCell' = true) (hm : xs.length * bytes ≤ 140737488355328) (hl : xs.length ≤ 140737488355328) :
    ∃ v' w', (Builtin.append_ #[T, T] T #[.slice none 0 0, v]).run P w = .ok v' w' ∧ Own w' w.heap.size E v' xs ∧ Below w.heap.size w w' := by
  rcases h with ⟨⟨a0, c0, rfl⟩, rfl⟩ | ⟨b, off, cap, rfl, hb, hc⟩
  · refine ⟨.slice none 0 0, w, ?_, Own.nil _ _ _, Below.refl _ _⟩
    cases a0 <;> simp [Builtin.append_, run_underlying hT, sizeOf, typeInfo, hi, Builtin.lenOf, Builtin.firstCells, storeCells, loadCells, loadCellsFrom]
  · obtain ⟨v', w', h1, h2, h3, h4⟩ := run_append_own (P := P) w w.heap.size T T E i z 1 bytes hT hi hz hs hy hzs (by decide) (.slice none 0 0) 0 [] (World.ownsRow_nil _ _ _ _) ⟨b, off, none⟩ xs.length cap xs (by omega)
      (fun j u hj => by
        have hj' : j < xs.length := by
          rcases Nat.lt_or_ge j xs.length with h | h
          · exact h
          · rw [List.getElem?_eq_none h] at hj; cases hj
        rw [addr_at, hc j hj', List.getD_eq_getElem?_getD, hj]; rfl)
      hx (by unfold maxLen; omega) (by rw [Nat.zero_add]; exact hm) (Nat.le_refl _)
    rw [Nat.zero_add, List.nil_append] at h2
    exact ⟨v', w', h1, ⟨h2⟩, (Below.refl _ w).grown h3 (Nat.le_refl _) (fun k hk => by simp [Value.ownBlock] at hk)⟩
/-- A row of noughts. -/
theorem Own.make_run {P : Program} {T E : TypeId} {i : TypeInfo} {z : Value} {bytes : Nat} (hT : P.underlying T = some (.slice E)) (hi : P.info? E = some i) (hz : i.zero = some z) (hs : i.size = 1) (hy : i.bytes = bytes) (hzs : z.cells = #[z])
    (w : World) (n : Nat) (hm : bytes * n ≤ 281474976710656) (hl : n ≤ 140737488355328) :
    ∃ w', (Instr.makeSlice T (.int .i64 (n : Int)) (.int .i64 (n : Int))).run P w = .ok (.slice (some ⟨w.heap.size, 0, none⟩) n n) w' ∧ Own w' w.heap.size E (.slice (some ⟨w.heap.size, 0, none⟩) n n) (List.replicate n z) ∧ Below w.heap.size w w' := by
  obtain ⟨w', h1, h2, h3⟩ := run_make_full (P := P) w w.heap.size T E i z 1 hT hi hz hs .i64 .i64 n (by rw [hy]; exact hm) (by unfold maxLen; omega) (Nat.le_refl _)
  refine ⟨w', h1, ⟨?_⟩, (Below.refl _ w).grown h3 (Nat.le_refl _) (fun k hk => by cases hk)⟩
  have e : (madeCells z.cells (n * 1)).toList = List.replicate n z := by
    rw [hzs, Nat.mul_one]
    apply List.ext_getElem
    · simp [madeCells]
    · intro j h1 h2; simp [madeCells, Nat.mod_one]
  rw [e] at h2
  rw [List.length_replicate]; exact h2
end Go.Proofs.Ytlbjfigdocbffaa
