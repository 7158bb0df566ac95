/- Lbase: what this claim reaches of Own, Cls, ClsTail and others. -/
import Derived.Test.YtfadglcpapiklaaGreatDoorRows
import Derived.ProofKit
import Derived.WalkKit
import Derived.Below
import Derived.BigQuiet
import Derived.Deep.QuietTactic
import Derived.Laws.AppendOwn
import Derived.OwnWalk
import Derived.Deep.AppendLies
import Derived.Lib.Hide
import Derived.Deep.Draws
import Derived.Lib.AppendZeros
import Derived.Lib.Overlaps
import Derived.Lib.SliceRun
import Derived.Laws.CopyRow
import Derived.Laws.CopyOwn
import Derived.Laws.IdiomStrings
import Derived.Laws.Tables
import Derived.Lib.BufferWrite
import Derived.Deep.OwnRows
import Derived.RangeFuncWrites
import Derived.SliceStrings
import Derived.ChangeSlices
import Derived.WideShapes
import Derived.SizedLaws
import Derived.ChangeSame
import Derived.ChangeArms
import Derived.Lib.SmallJoins
import Derived.Lib.LaidTab
import Derived.Deep.Slices
section
namespace Go.Proofs.YtfadglcpapiklaaGreatDoor
theorem own : ownKnob Tryz.prog.godebug = none := by kernel_rfl
end Go.Proofs.YtfadglcpapiklaaGreatDoor
end
section
namespace Go.Proofs.YtfadglcpapiklaaGreatDoor
open Go.RowKit
/-- A region that draws its order, whose operations leave the world alone and whose calls leave a world of the class D: one walk, in the order of the text. Z names the worlds of the class. -/
theorem wp_region_cls {P : Program} (D : World → Prop) {id : Nat} {Q : Exit → Act → World → Prop} {a : Act} {w : World} {l : List Oper} (hm : P.follows .mixedOrders = true) (hB : Region.lexB .any l.toArray = true) (hC : D w.drew)
    (h : ∀ (Z : Type) (f : Z → World), Nonempty Z → (∀ z, D (f z)) → (∀ w', D w' → ∃ z, w' = f z) →
      wpQuiet P l.toArray (fun w' => ∃ z : Z, w' = f z) (fun a' => ∀ w', (∃ z : Z, w' = f z) → Q .normal a' w') l a) : (Code.region id l.toArray true).wp P Q a w := by
  have := h {w' // D w'} Subtype.val ⟨⟨_, hC⟩⟩ (fun z => z.property) (fun w' hw => ⟨⟨w', hw⟩, rfl⟩)
  exact wp_region_quiet (C := fun w' => ∃ z : {w' // D w'}, w' = z.val) hm hB ⟨⟨_, hC⟩, rfl⟩ (by simpa using this)
theorem toQB {w0 : World} {Z : Type} {f : Z → World} (hD : ∀ z, Below w0.heap.size w0 (f z)) (hE : ∀ w', Below w0.heap.size w0 w' → ∃ z, w' = f z) {P : Program} {n : FuncId} {args : Array Value} {v : Value} (z : Z)
    (h : Calls P n args (f z) fun e w' => e = .returned v ∧ Below (f z).heap.size (f z) w') : Calls P n args (f z) fun e w'' => e = .returned v ∧ ∃ z' : Z, w'' = f z' :=
  h.mono fun _ w' ⟨he, hw⟩ => ⟨he, hE w' ((hD z).trans (hw.mono (hD z).size))⟩
theorem bcell {W w1 : World} (hb : Below W.heap.size W w1) : (∀ b o, b < W.heap.size → w1.cell? ⟨b, o, none⟩ = W.cell? ⟨b, o, none⟩) ∧ (∀ b o, b < W.heap.size → w1.frozen? ⟨b, o, none⟩ = W.frozen? ⟨b, o, none⟩) :=
  ⟨fun b o h => hb.cell (p := ⟨b, o, none⟩) h, fun b o h => hb.frozen (p := ⟨b, o, none⟩) h⟩
theorem below_c {w0 w w' : World} (h : Below w0.heap.size w0 w) (hb : Below w.heap.size w w') : Below w0.heap.size w0 w' := h.trans (hb.mono h.size)
/-- In whatever world of the class the old cells read as before. -/
theorem clsCell {w0 : World} {Z : Type} {f : Z → World} (hD : ∀ z, Below w0.heap.size w0 (f z)) : ∀ (z : Z) b o, b < w0.heap.size → (f z).cell? ⟨b, o, none⟩ = w0.cell? ⟨b, o, none⟩ := fun z b o h => (hD z).cell (p := ⟨b, o, none⟩) h
end Go.Proofs.YtfadglcpapiklaaGreatDoor
end
section
namespace Go.Proofs.YtfadglcpapiklaaGreatDoor
open Go.RowKit
set_option linter.unusedVariables false
set_option linter.unusedSimpArgs false

theorem addr_at (b o j : Nat) : (⟨b, o, none⟩ : Addr).add j = ⟨b, o + j, none⟩ := by
  unfold Addr.add; split <;> simp_all
/-- What a slice reads as. -/
def Reads (w : World) (v : Value) (xs : List Value) : Prop :=
  ((∃ a c, v = .slice a 0 c) ∧ xs = []) ∨
  ∃ b off cap, v = .slice (some ⟨b, off, none⟩) xs.length cap ∧ b < w.heap.size ∧ ∀ i, i < xs.length → w.cell? ⟨b, off + i, none⟩ = some (xs.getD i .nilFunc)
theorem Reads.below {w w' : World} {v : Value} {xs : List Value} (h : Reads w v xs) (hb : Below w.heap.size w w') : Reads w' v xs := by
  rcases h with h | ⟨b, off, cap, h1, h2, h3⟩
  · exact .inl h
  · exact .inr ⟨b, off, cap, h1, Nat.lt_of_lt_of_le h2 hb.size, fun i hi => by rw [hb.cell (p := ⟨b, off + i, none⟩) h2]; exact h3 i hi⟩
theorem Reads.len_run {P : Program} {T E : TypeId} (hT : P.underlying T = some (.slice E)) {w : World} {v : Value} {xs : List Value} (h : Reads w v xs) (ty : TypeId) (w' : World) :
    (Builtin.len_ #[T] ty #[v]).run P w' = .ok (.int .i64 (xs.length : Int)) w' := by
  rcases h with ⟨⟨a, c, rfl⟩, rfl⟩ | ⟨b, off, cap, rfl, h2, h3⟩
  · simp [Builtin.len_, run_underlying hT, goInt]
  · simp [Builtin.len_, run_underlying hT, goInt]
/-- What a call owns, from block B on: a slice that is nil or stands at the head of a row. -/
structure Own (w : World) (B : Nat) (E : TypeId) (v : Value) (xs : List Value) : Prop where
  o : w.ownsRow B E 1 v xs.length xs
theorem Own.nil (w : World) (B : Nat) (E : TypeId) : Own w B E (.slice none 0 0) [] := ⟨World.ownsRow_nil _ _ _ _⟩
theorem Own.form {w : World} {B : Nat} {E : TypeId} {v : Value} {xs : List Value} (h : Own w B E v xs) (hn : 0 < xs.length) : ∃ g cap, v = .slice (some ⟨g, 0, none⟩) xs.length cap ∧ B ≤ g ∧ g < w.heap.size := h.o.form hn
theorem Own.cell {w : World} {B : Nat} {E : TypeId} {g n cap : Nat} {xs : List Value} (h : Own w B E (.slice (some ⟨g, 0, none⟩) n cap) xs) {i : Nat} (hi : i < xs.length) : w.cell? ⟨g, i, none⟩ = some (xs.getD i .nilFunc) := by
  have hn : n = xs.length := by rcases h.o.2 with ⟨h1, _⟩ | ⟨_, _, _, h1, _⟩ <;> simp at h1; exact h1.2.1
  subst hn
  rw [h.o.cellAt i (by omega), List.getD_eq_getElem?_getD, List.getElem?_eq_getElem hi]; rfl
theorem Own.frozen {w : World} {B : Nat} {E : TypeId} {g n cap : Nat} {xs : List Value} (h : Own w B E (.slice (some ⟨g, 0, none⟩) n cap) xs) (i : Nat) : w.frozen? ⟨g, i, none⟩ = false := by
  have hn : n = xs.length := by rcases h.o.2 with ⟨h1, _⟩ | ⟨_, _, _, h1, _⟩ <;> simp at h1; exact h1.2.1
  subst hn
  exact h.o.frozenAt i
theorem Own.lt {w : World} {B : Nat} {E : TypeId} {g n cap : Nat} {xs : List Value} (h : Own w B E (.slice (some ⟨g, 0, none⟩) n cap) xs) : B ≤ g ∧ g < w.heap.size := h.o.lt g rfl
theorem Own.set {w : World} {B : Nat} {E : TypeId} {g n cap : Nat} {xs : List Value} (h : Own w B E (.slice (some ⟨g, 0, none⟩) n cap) xs) (i : Nat) (u : Value) : Own (w.setCell ⟨g, i, none⟩ u) B E (.slice (some ⟨g, 0, none⟩) n cap) (xs.set i u) := by
  have hn : n = xs.length := by rcases h.o.2 with ⟨h1, _⟩ | ⟨_, _, _, h1, _⟩ <;> simp at h1; exact h1.2.1
  subst hn
  refine ⟨?_⟩
  rw [List.length_set]
  exact (h.o.stored i u).1
theorem Own.reads {w : World} {B : Nat} {E : TypeId} {v : Value} {xs : List Value} (h : Own w B E v xs) : Reads w v xs := by
  rcases h.o.2 with ⟨h1, h2⟩ | ⟨g, cap, cur, h1, h2, h3, h4, h5, h6, h7⟩
  · exact .inl ⟨⟨_, _, h1⟩, List.eq_nil_of_length_eq_zero h2⟩
  · refine .inr ⟨g, 0, cap, h1, (Array.getElem?_eq_some_iff.1 h3).1, fun i hi => ?_⟩
    subst h1
    rw [Nat.zero_add]; exact h.cell hi
theorem Own.drew {w : World} {B : Nat} {E : TypeId} {v : Value} {xs : List Value} (h : Own w B E v xs) : Own w.drew B E v xs := ⟨h.o.drew⟩
theorem Own.mono {w : World} {B B' : Nat} {E : TypeId} {v : Value} {xs : List Value} (h : Own w B E v xs) (hB : B' ≤ B) : Own w B' E v xs :=
  ⟨h.o.1, h.o.2.imp id fun ⟨g, cap, cur, h1, h2, h3⟩ => ⟨g, cap, cur, h1, Nat.le_trans hB h2, h3⟩⟩
theorem Own.below {w w' : World} {B C : Nat} {E : TypeId} {v : Value} {xs : List Value} (h : Own w B E v xs) (hb : Below C w w') (hC : ∀ k, v.ownBlock = some k → k < C) : Own w' B E v xs := by
  refine ⟨h.o.1, ?_⟩
  rcases h.o.2 with h1 | ⟨g, cap, cur, h1, h2, h3, h4⟩
  · exact .inl h1
  · exact .inr ⟨g, cap, cur, h1, h2, by rw [hb.block g (hC g (by rw [h1]; rfl))]; exact h3, h4⟩
theorem Own.after {w w' : World} {B : Nat} {E : TypeId} {v : Value} {xs : List Value} (h : Own w B E v xs) (hb : Below w.heap.size w w') : Own w' B E v xs := h.below hb fun k hk => (h.o.lt k hk).2
theorem Own.alloc {w : World} {B : Nat} {E : TypeId} {v : Value} {xs : List Value} (h : Own w B E v xs) (o : Obj) : Own (w.alloc o) B E v xs := ⟨h.o.alloc o⟩
theorem Own.setOther {w : World} {B : Nat} {E : TypeId} {v : Value} {xs : List Value} (h : Own w B E v xs) {a : Addr} (hne : v.ownBlock ≠ some a.block) (u : Value) : Own (w.setCell a u) B E v xs := by
  refine ⟨h.o.1, ?_⟩
  rcases h.o.2 with h1 | ⟨g, cap, cur, h1, h2, h3, h4⟩
  · exact .inl h1
  · refine .inr ⟨g, cap, cur, h1, h2, ?_, h4⟩
    rw [Below.heap_setCell _ _ _ _ (fun e => hne (by rw [h1, ← e]; rfl))]; exact h3
/-- One more. -/
theorem Own.push {P : Program} {T E : TypeId} {i : TypeInfo} {z : Value} {bytes : Nat} (hT : P.underlying T = some (.slice E)) (hi : P.info? E = some i) (hz : i.zero = some z) (hs : i.size = 1) (hy : i.bytes = bytes) (hzs : z.cells.size = 1)
    {w : World} {B : Nat} {v : Value} {xs : List Value} (h : Own w B E v xs) (x : Value) (hx : x.oneCell' = true) (hB : B ≤ w.heap.size) (hm : (xs.length + 1) * bytes ≤ 140737488355328) (hl : xs.length + 1 ≤ 140737488355328) :
    ∃ v' w', (Builtin.append_ #[T, T] T #[v, .slice (some ⟨w.heap.size, 0, none⟩) 1 1]).run P (w.alloc (.cells #[x] E)) = .ok v' w' ∧ Own w' B E v' (xs ++ [x]) ∧ Below B w w' := by
  obtain ⟨v', w', h1, h2, h3, h4⟩ := run_append_own (P := P) (w.alloc (.cells #[x] E)) B T T E i z 1 bytes hT hi hz hs hy hzs (by decide) v xs.length xs (h.o.alloc _) ⟨w.heap.size, 0, none⟩ 1 1 [x] rfl
    (fun j u hj => by
      match j, hj with
      | 0, hj => simp at hj; subst hj; rw [addr_at, World.cell?_alloc_mark]; simp)
    (fun u hu => by simp at hu; subst hu; exact hx) (by unfold maxLen; omega) hm (by simp; omega)
  refine ⟨v', w', h1, ⟨by rw [List.length_append]; exact h2⟩, ((Below.refl B w).alloc hB _).grown h3 (by simp; omega) (fun k hk => (h.o.lt k hk).1)⟩
/-- An append whose run is known. -/
theorem wpList_append_run {P : Program} {w : World} {ops : Array Oper} {rest : List Oper} {o : Oper} {a : Act} {Q : Exit → Act → World → Prop} {t ty : TypeId} {v xv v' : Value} {w' : World}
    (hr : (Builtin.append_ #[t, t] ty #[v, xv]).run P w = .ok v' w') (s x : Operand) (hgd : o.guard = none) (ho : o.op = Op.call { callee := Callee.builtin Builtin.append, args := #[s, x], argTypes := #[t, t] })
    (hty : o.type = ty) (hs : a.eval s = v) (hx : a.eval x = xv) (h : wpList P ops Q rest (a.put o.dst v') w') : wpList P ops Q (o :: rest) a w := by
  subst hty
  refine wpList_plain hgd fun K hK => ?_
  unfold Oper.wp
  simp [execOp, ho, resolve, invoke, builtin, hs, hx, hr, Result.andThen]
  exact hK _ _ h
/-- A row of noughts. -/
theorem Own.make_run {P : Program} {T E : TypeId} {i : TypeInfo} {z : Value} {bytes : Nat} (hT : P.underlying T = some (.slice E)) (hi : P.info? E = some i) (hz : i.zero = some z) (hs : i.size = 1) (hy : i.bytes = bytes) (hzs : z.cells = #[z])
    (w : World) (n : Nat) (hm : bytes * n ≤ 281474976710656) (hl : n ≤ 140737488355328) :
    ∃ w', (Instr.makeSlice T (.int .i64 (n : Int)) (.int .i64 (n : Int))).run P w = .ok (.slice (some ⟨w.heap.size, 0, none⟩) n n) w' ∧ Own w' w.heap.size E (.slice (some ⟨w.heap.size, 0, none⟩) n n) (List.replicate n z) ∧ Below w.heap.size w w' := by
  obtain ⟨w', h1, h2, h3⟩ := run_make_full (P := P) w w.heap.size T E i z 1 hT hi hz hs .i64 .i64 n (by rw [hy]; exact hm) (by unfold maxLen; omega) (Nat.le_refl _)
  refine ⟨w', h1, ⟨?_⟩, (Below.refl _ w).grown h3 (Nat.le_refl _) (fun k hk => by cases hk)⟩
  have e : (madeCells z.cells (n * 1)).toList = List.replicate n z := by
    rw [hzs, Nat.mul_one]
    apply List.ext_getElem
    · simp [madeCells]
    · intro j h1 h2; simp [madeCells, Nat.mod_one]
  rw [e] at h2
  rw [List.length_replicate]; exact h2
end Go.Proofs.YtfadglcpapiklaaGreatDoor
end
section
namespace Go.Proofs.YtfadglcpapiklaaGreatDoor
open Go.RowKit
set_option linter.unusedVariables false
set_option linter.unusedSimpArgs false

def Apart (u v : Value) : Prop := ∀ k, u.ownBlock = some k → v.ownBlock ≠ some k
theorem Apart.symm {u v : Value} (h : Apart u v) : Apart v u := fun k h1 h2 => h k h2 h1
theorem Apart.nil (v : Value) : Apart (.slice none 0 0) v := fun k h => by cases h
/-- All blocks but those of v are as they were. -/
def KeptBut (v : Value) (w w' : World) : Prop := ∀ k, k < w.heap.size → v.ownBlock ≠ some k → w'.heap[k]? = w.heap[k]?
theorem Own.kept {w w' : World} {B : Nat} {E : TypeId} {u v : Value} {ys : List Value} (h : Own w B E u ys) (hk : KeptBut v w w') (ha : Apart u v) : Own w' B E u ys := by
  refine ⟨h.o.1, ?_⟩
  rcases h.o.2 with h1 | ⟨g, cap, cur, h1, h2, h3, h4⟩
  · exact .inl h1
  · refine .inr ⟨g, cap, cur, h1, h2, ?_, h4⟩
    rw [hk g (Array.getElem?_eq_some_iff.1 h3).1 (ha g (by rw [h1]; rfl))]; exact h3
/-- One more; what stands in other blocks stays. -/
theorem Own.pushA {P : Program} {T E : TypeId} {i : TypeInfo} {z : Value} {bytes : Nat} (hT : P.underlying T = some (.slice E)) (hi : P.info? E = some i) (hz : i.zero = some z) (hs : i.size = 1) (hy : i.bytes = bytes) (hzs : z.cells.size = 1)
    {w : World} {B : Nat} {v : Value} {xs : List Value} (h : Own w B E v xs) (x : Value) (hx : x.oneCell' = true) (hB : B ≤ w.heap.size) (hm : (xs.length + 1) * bytes ≤ 140737488355328) (hl : xs.length + 1 ≤ 140737488355328) :
    ∃ v' w', (Builtin.append_ #[T, T] T #[v, .slice (some ⟨w.heap.size, 0, none⟩) 1 1]).run P (w.alloc (.cells #[x] E)) = .ok v' w' ∧ Own w' B E v' (xs ++ [x]) ∧ Below B w w' ∧ KeptBut v w w' ∧ (v'.ownBlock = v.ownBlock ∨ v'.ownBlock = some (w.heap.size + 1)) := by
  have hnews : ∀ j u, ([x] : List Value)[j]? = some u → (w.alloc (.cells #[x] E)).cell? ((⟨w.heap.size, 0, none⟩ : Addr).add j) = some u := fun j u hj => by
    match j, hj with
    | 0, hj => simp at hj; subst hj; rw [addr_at, World.cell?_alloc_mark]; simp
  obtain ⟨v', w', h1, h2, h3, h4⟩ := run_append_own (P := P) (w.alloc (.cells #[x] E)) B T T E i z 1 bytes hT hi hz hs hy hzs (by decide) v xs.length xs (h.o.alloc _) ⟨w.heap.size, 0, none⟩ 1 1 [x] rfl hnews
    (fun u hu => by simp at hu; subst hu; exact hx) (by unfold maxLen; omega) hm (by simp; omega)
  refine ⟨v', w', h1, ⟨by rw [List.length_append]; exact h2⟩, ((Below.refl B w).alloc hB _).grown h3 (by simp; omega) (fun k hk => (h.o.lt k hk).1), fun k hk hne => ?_, ?_⟩
  · rw [h3.block k (by simp; omega) (Ne.symm hne)]
    exact Below.heap_alloc w _ k hk
  · rcases h.o.2 with ⟨rfl, h0⟩ | ⟨g, cap, cur, rfl, hb, hg, hnc, hcm, hcs, htake⟩
    · have hr := run_append_nil (P := P) (w.alloc (.cells #[x] E)) T T E i z hT hi hz ⟨w.heap.size, 0, none⟩ 1 1 [x] (by rw [hs]; rfl) hnews (by decide) (by decide) (by rw [hy]; have := Nat.mul_le_mul_right bytes (show 1 ≤ xs.length + 1 by omega); omega)
      rw [hr] at h1
      have := congrArg (fun r => match r with | Result.ok v _ => v.ownBlock | _ => none) h1
      right
      simpa [Value.ownBlock] using this.symm
    · by_cases hroom : xs.length + 1 ≤ cap
      · have hg' : (w.alloc (.cells #[x] E)).heap[g]? = some (.cells cur E (0, 0)) := by rw [Below.heap_alloc w _ g (Array.getElem?_eq_some_iff.1 hg).1]; exact hg
        have hr := run_append_room (P := P) (w.alloc (.cells #[x] E)) T T E i hT hi g xs.length cap cur hg' ⟨w.heap.size, 0, none⟩ 1 1 [x] (by rw [hs]; rfl) hnews (fun u hu => by simp at hu; subst hu; exact hx) hroom (by rw [hs, hcs]; simp; omega)
        rw [hr] at h1
        have := congrArg (fun r => match r with | Result.ok v _ => v.ownBlock | _ => none) h1
        left
        simpa [Value.ownBlock] using this.symm
      · have holds : ∀ j u, xs[j]? = some u → (w.alloc (.cells #[x] E)).cell? ((⟨g, 0, none⟩ : Addr).add j) = some u := (h.o.alloc _).cells (g := g) rfl
        have hr := run_append_grow (P := P) (w.alloc (.cells #[x] E)) T T E i z hT hi hz ⟨g, 0, none⟩ xs.length cap xs (by rw [hs]; omega) holds ⟨w.heap.size, 0, none⟩ 1 1 [x] (by rw [hs]; rfl) hnews (by omega) (by omega) (by rw [hy]; exact growslice_fits (by omega) hm)
        rw [hr] at h1
        have := congrArg (fun r => match r with | Result.ok v _ => v.ownBlock | _ => none) h1
        right
        simpa [Value.ownBlock] using this.symm
theorem Apart.push {w : World} {B : Nat} {E : TypeId} {u v v' : Value} {ys : List Value} (ho : Own w B E u ys) (ha : Apart u v) (h : v'.ownBlock = v.ownBlock ∨ v'.ownBlock = some (w.heap.size + 1)) : Apart u v' := fun k hk => by
  rcases h with h | h
  · rw [h]; exact ha k hk
  · rw [h]
    have := (ho.o.lt k hk).2
    intro e
    simp at e
    omega
end Go.Proofs.YtfadglcpapiklaaGreatDoor
end
section
namespace Go.Proofs.YtfadglcpapiklaaGreatDoor
open Go.RowKit
set_option linter.unusedVariables false
set_option linter.unusedSimpArgs false

theorem run_append_nothing {P : Program} {T E : TypeId} {i : TypeInfo} (hT : P.underlying T = some (.slice E)) (hi : P.info? E = some i) (ty : TypeId) (a : Option Addr) (n c : Nat) (h : n ≤ c) (w : World) {a0 : Option Addr} {c0 : Nat} :
    (Builtin.append_ #[T, T] ty #[.slice a n c, .slice a0 0 c0]).run P w = .ok (.slice a n c) w := by
  cases a <;> cases a0 <;> simp [Builtin.append_, run_underlying hT, sizeOf, typeInfo, hi, Builtin.lenOf, Builtin.firstCells, h, storeCells, loadCells, loadCellsFrom]
/-- An append whose run is known, of whatever is appended. -/
theorem wpList_append_run2 {P : Program} {w : World} {ops : Array Oper} {rest : List Oper} {o : Oper} {a : Act} {Q : Exit → Act → World → Prop} {t u ty : TypeId} {v xv v' : Value} {w' : World}
    (hr : (Builtin.append_ #[t, u] ty #[v, xv]).run P w = .ok v' w') (s x : Operand) (hgd : o.guard = none) (ho : o.op = Op.call { callee := Callee.builtin Builtin.append, args := #[s, x], argTypes := #[t, u] })
    (hty : o.type = ty) (hs : a.eval s = v) (hx : a.eval x = xv) (h : wpList P ops Q rest (a.put o.dst v') w') : wpList P ops Q (o :: rest) a w := by
  subst hty
  refine wpList_plain hgd fun K hK => ?_
  unfold Oper.wp
  simp [execOp, ho, resolve, invoke, builtin, hs, hx, hr, Result.andThen]
  exact hK _ _ h
/-- A list more. -/
theorem Own.pushAll {P : Program} {T E : TypeId} {i : TypeInfo} {z : Value} {bytes : Nat} (hT : P.underlying T = some (.slice E)) (hi : P.info? E = some i) (hz : i.zero = some z) (hs : i.size = 1) (hy : i.bytes = bytes) (hzs : z.cells.size = 1)
    {w : World} {B : Nat} {v u : Value} {xs ys : List Value} (h : Own w B E v xs) (hu : Reads w u ys) (hx : ∀ x ∈ ys, x.oneCell' = true) (hB : B ≤ w.heap.size) (hm : (xs.length + ys.length) * bytes ≤ 140737488355328) (hl : xs.length + ys.length ≤ 140737488355328) :
    ∃ v' w', (Builtin.append_ #[T, T] T #[v, u]).run P w = .ok v' w' ∧ Own w' B E v' (xs ++ ys) ∧ Below B w w' ∧ ∀ k, k < w.heap.size → v.ownBlock ≠ some k → w'.heap[k]? = w.heap[k]? := by
  rcases hu with ⟨⟨a0, c0, rfl⟩, rfl⟩ | ⟨b, off, cap, rfl, hb, hc⟩
  · rcases h.o.2 with ⟨rfl, h0⟩ | ⟨g, cap, cur, rfl, hbg, hg, hnc, r⟩
    · exact ⟨_, w, run_append_nothing hT hi T none 0 0 (Nat.le_refl _) w, by rw [List.append_nil]; exact h, Below.refl _ _, fun _ _ _ => rfl⟩
    · exact ⟨_, w, run_append_nothing hT hi T (some ⟨g, 0, none⟩) xs.length cap hnc w, by rw [List.append_nil]; exact h, Below.refl _ _, fun _ _ _ => rfl⟩
  · obtain ⟨v', w', h1, h2, h3, h4⟩ := run_append_own (P := P) w B T T E i z 1 bytes hT hi hz hs hy hzs (by decide) v xs.length xs h.o ⟨b, off, none⟩ ys.length cap ys (by omega)
      (fun j u hj => by
        have hj' : j < ys.length := by
          rcases Nat.lt_or_ge j ys.length with h | h
          · exact h
          · rw [List.getElem?_eq_none h] at hj; cases hj
        rw [addr_at, hc j hj', List.getD_eq_getElem?_getD, hj]; rfl)
      hx (by unfold maxLen; omega) hm hB
    exact ⟨v', w', h1, ⟨by rw [List.length_append]; exact h2⟩, (Below.refl B w).grown h3 hB (fun k hk => (h.o.lt k hk).1), fun k hk hne => h3.block k hk (Ne.symm hne)⟩
end Go.Proofs.YtfadglcpapiklaaGreatDoor
end
section
namespace Go.Proofs.YtfadglcpapiklaaGreatDoor
open Go.RowKit
set_option linter.unusedVariables false
set_option linter.unusedSimpArgs false

/-- A list as it lies. -/
theorem Reads.items {α : Type} {w : World} {v : Value} {L : List α} {f : α → Value} (h : Reads w v (L.map f)) : ∃ a cap, v = .slice a L.length cap ∧ ∀ i (hi : i < L.length), ∃ cb co, a = some ⟨cb, co, none⟩ ∧ cb < w.heap.size ∧ w.cell? ⟨cb, co + i, none⟩ = some (f L[i]) := by
  rcases h with ⟨⟨a0, c0, rfl⟩, e⟩ | ⟨b, off, cap, rfl, h1, h2⟩
  · have : L = [] := by simpa using e
    subst this
    exact ⟨a0, c0, rfl, fun i hi => by simp at hi⟩
  · refine ⟨some ⟨b, off, none⟩, cap, by rw [List.length_map], fun i hi => ⟨b, off, rfl, h1, ?_⟩⟩
    rw [h2 i (by rw [List.length_map]; exact hi)]
    simp [List.getD_eq_getElem?_getD, hi]
theorem Reads.nums {w : World} {v : Value} {l : List Int} (h : Reads w v (l.map (.int .i64))) : ∃ a cap, v = .slice a l.length cap ∧ ∀ i, i < l.length → ∃ cb co, a = some ⟨cb, co, none⟩ ∧ cb < w.heap.size ∧ w.cell? ⟨cb, co + i, none⟩ = some (.int .i64 (l.getD i 0)) := by
  obtain ⟨a, cap, h1, h2⟩ := Reads.items h
  refine ⟨a, cap, h1, fun i hi => ?_⟩
  obtain ⟨cb, co, e1, e2, e3⟩ := h2 i hi
  exact ⟨cb, co, e1, e2, by rw [e3]; simp [List.getD_eq_getElem?_getD, hi]⟩
theorem Own.sameBlock {w w' : World} {B : Nat} {E : TypeId} {g n cap : Nat} {xs : List Value} (h : Own w B E (.slice (some ⟨g, 0, none⟩) n cap) xs) (e : w'.heap[g]? = w.heap[g]?) : Own w' B E (.slice (some ⟨g, 0, none⟩) n cap) xs := by
  refine ⟨h.o.1, ?_⟩
  rcases h.o.2 with h1 | ⟨g', cap', cur, h1, h2, h3, h4⟩
  · exact .inl h1
  · refine .inr ⟨g', cap', cur, h1, h2, ?_, h4⟩
    have : g = g' := by simp at h1; exact h1.1
    subst this
    rw [e]; exact h3
theorem Own.drewN {w : World} {B : Nat} {E : TypeId} {v : Value} {xs : List Value} (h : Own w B E v xs) (k : Nat) : Own (w.drewN k) B E v xs := ⟨h.o.1, h.o.2⟩
/-- A row by its places. -/
def rowV (n : Nat) (f : Nat → Value) : List Value := (List.range n).map f
theorem rowV_len (n : Nat) (f : Nat → Value) : (rowV n f).length = n := by simp [rowV]
theorem rowV_get (n : Nat) (f : Nat → Value) (i : Nat) (h : i < n) (d : Value) : (rowV n f).getD i d = f i := by simp [rowV, List.getD_eq_getElem?_getD, h]
end Go.Proofs.YtfadglcpapiklaaGreatDoor
end
section
namespace Go.Proofs.YtfadglcpapiklaaGreatDoor
open Go.RowKit
set_option linter.unusedVariables false
set_option linter.unusedSimpArgs false

/-- How elements lie in cells. -/
structure Enc (α : Type) where
  k : Nat
  f : α → List Value
  pos : 0 < k
  len : ∀ a, (f a).length = k
  one : ∀ a, ∀ u ∈ f a, u.oneCell' = true
namespace Enc
variable {α : Type} (E : Enc α)
def all (l : List α) : List Value := l.flatMap E.f
theorem all_nil : E.all [] = [] := rfl
theorem all_cons (a : α) (l : List α) : E.all (a :: l) = E.f a ++ E.all l := rfl
theorem all_append (l m : List α) : E.all (l ++ m) = E.all l ++ E.all m := List.flatMap_append
theorem all_single (a : α) : E.all [a] = E.f a := by rw [all_cons, all_nil, List.append_nil]
theorem all_len : ∀ l : List α, (E.all l).length = l.length * E.k
  | [] => by simp [all]
  | a :: l => by rw [all_cons, List.length_append, E.len, all_len l, List.length_cons, Nat.succ_mul]; omega
theorem all_one (l : List α) : ∀ u ∈ E.all l, u.oneCell' = true := fun u hu => by
  obtain ⟨a, _, h⟩ := List.mem_flatMap.1 hu
  exact E.one a u h
theorem all_drop : ∀ (l : List α) (n : Nat), (E.all l).drop (n * E.k) = E.all (l.drop n)
  | [], n => by simp [all]
  | a :: l, 0 => by simp
  | a :: l, n + 1 => by
    rw [all_cons, List.drop_succ_cons, ← all_drop l n, List.drop_append, E.len, List.drop_of_length_le (by rw [E.len, Nat.succ_mul]; omega), List.nil_append, show (n + 1) * E.k - E.k = n * E.k by rw [Nat.succ_mul]; omega]
theorem all_get (l : List α) (i : Nat) (hi : i < l.length) (j : Nat) (hj : j < E.k) : (E.all l)[i * E.k + j]? = (E.f l[i])[j]? := by
  rw [← List.getElem?_drop, all_drop, List.drop_eq_getElem_cons hi, all_cons, List.getElem?_append_left (by rw [E.len]; exact hj)]
end Enc
variable {α : Type}
/-- What a slice reads as. -/
def ReadsE (E : Enc α) (w : World) (v : Value) (l : List α) : Prop :=
  ((∃ a c, v = .slice a 0 c) ∧ l = []) ∨
  ∃ b off cap, v = .slice (some ⟨b, off, none⟩) l.length cap ∧ b < w.heap.size ∧ ∀ j u, (E.all l)[j]? = some u → w.cell? ⟨b, off + j, none⟩ = some u
theorem ReadsE.below {E : Enc α} {w w' : World} {v : Value} {l : List α} (h : ReadsE E w v l) (hb : Below w.heap.size w w') : ReadsE E w' v l := by
  rcases h with h | ⟨b, off, cap, h1, h2, h3⟩
  · exact .inl h
  · exact .inr ⟨b, off, cap, h1, Nat.lt_of_lt_of_le h2 hb.size, fun j u hj => by rw [hb.cell (p := ⟨b, off + j, none⟩) h2]; exact h3 j u hj⟩
theorem ReadsE.len_run {E : Enc α} {P : Program} {T S : TypeId} (hT : P.underlying S = some (.slice T)) {w : World} {v : Value} {l : List α} (h : ReadsE E w v l) (ty : TypeId) (w' : World) :
    (Builtin.len_ #[S] ty #[v]).run P w' = .ok (.int .i64 (l.length : Int)) w' := by
  rcases h with ⟨⟨a, c, rfl⟩, rfl⟩ | ⟨b, off, cap, rfl, h2, h3⟩ <;> simp [Builtin.len_, run_underlying hT, goInt]
theorem ReadsE.items {E : Enc α} {w : World} {v : Value} {l : List α} (h : ReadsE E w v l) :
    ∃ a cap, v = .slice a l.length cap ∧ ∀ i (hi : i < l.length), ∃ cb co, a = some ⟨cb, co, none⟩ ∧ cb < w.heap.size ∧ ∀ j, j < E.k → w.cell? ⟨cb, co + (i * E.k + j), none⟩ = (E.f l[i])[j]? := by
  rcases h with ⟨⟨a, c, rfl⟩, rfl⟩ | ⟨b, off, cap, rfl, h1, h2⟩
  · exact ⟨a, c, rfl, fun i hi => absurd hi (Nat.not_lt_zero _)⟩
  · refine ⟨_, cap, rfl, fun i hi => ⟨b, off, rfl, h1, fun j hj => ?_⟩⟩
    have hl : j < (E.f l[i]).length := by rw [E.len]; exact hj
    rw [List.getElem?_eq_getElem hl]
    refine h2 _ _ ?_
    rw [E.all_get l i hi j hj, List.getElem?_eq_getElem hl]
/-- What a call owns, from block B on: a slice that is nil or stands at the head of a row. -/
structure OwnE (E : Enc α) (w : World) (B : Nat) (T : TypeId) (v : Value) (l : List α) : Prop where
  o : w.ownsRow B T E.k v l.length (E.all l)
section
variable {E : Enc α} {w w' : World} {B : Nat} {T : TypeId} {v : Value} {l : List α}
theorem OwnE.nil (E : Enc α) (w : World) (B : Nat) (T : TypeId) : OwnE E w B T (.slice none 0 0) [] := ⟨World.ownsRow_nil _ _ _ _⟩
theorem OwnE.form (h : OwnE E w B T v l) (hn : 0 < l.length) : ∃ g cap, v = .slice (some ⟨g, 0, none⟩) l.length cap ∧ B ≤ g ∧ g < w.heap.size := by
  rcases h.o.2 with ⟨_, h0⟩ | ⟨g, cap, cur, h1, h2, h3, _⟩
  · omega
  · exact ⟨g, cap, h1, h2, (Array.getElem?_eq_some_iff.1 h3).1⟩
theorem OwnE.forms (h : OwnE E w B T v l) : (v = .slice none 0 0 ∧ l = []) ∨ ∃ g cap, v = .slice (some ⟨g, 0, none⟩) l.length cap ∧ B ≤ g ∧ g < w.heap.size := by
  rcases h.o.2 with ⟨h1, h0⟩ | ⟨g, cap, cur, h1, h2, h3, _⟩
  · exact .inl ⟨h1, List.eq_nil_of_length_eq_zero h0⟩
  · exact .inr ⟨g, cap, h1, h2, (Array.getElem?_eq_some_iff.1 h3).1⟩
theorem OwnE.cell {g n cap : Nat} (h : OwnE E w B T (.slice (some ⟨g, 0, none⟩) n cap) l) {i : Nat} (hi : i < l.length) {j : Nat} (hj : j < E.k) : w.cell? ⟨g, i * E.k + j, none⟩ = (E.f l[i])[j]? := by
  have hn : n = l.length := by rcases h.o.2 with ⟨h1, _⟩ | ⟨_, _, _, h1, _⟩ <;> simp at h1; exact h1.2.1
  subst hn
  rw [h.o.cellAt _ (by have : (i + 1) * E.k ≤ l.length * E.k := Nat.mul_le_mul_right _ hi
                       rw [Nat.succ_mul] at this; omega), E.all_get l i hi j hj]
theorem OwnE.frozen {g n cap : Nat} (h : OwnE E w B T (.slice (some ⟨g, 0, none⟩) n cap) l) (i : Nat) : w.frozen? ⟨g, i, none⟩ = false := by
  have hn : n = l.length := by rcases h.o.2 with ⟨h1, _⟩ | ⟨_, _, _, h1, _⟩ <;> simp at h1; exact h1.2.1
  subst hn
  exact h.o.frozenAt i
theorem OwnE.reads (h : OwnE E w B T v l) : ReadsE E w v l := by
  rcases h.o.2 with ⟨h1, h2⟩ | ⟨g, cap, cur, h1, h2, h3, h4, h5, h6, h7⟩
  · exact .inl ⟨⟨_, _, h1⟩, List.eq_nil_of_length_eq_zero h2⟩
  · refine .inr ⟨g, 0, cap, h1, (Array.getElem?_eq_some_iff.1 h3).1, fun j u hj => ?_⟩
    subst h1
    rw [Nat.zero_add]
    have hl : j < l.length * E.k := by
      rw [← E.all_len]; exact (List.getElem?_eq_some_iff.1 hj).1
    rw [h.o.cellAt j hl]; exact hj
theorem OwnE.drew (h : OwnE E w B T v l) : OwnE E w.drew B T v l := ⟨h.o.drew⟩
theorem OwnE.drewN (h : OwnE E w B T v l) (k : Nat) : OwnE E (w.drewN k) B T v l := ⟨h.o.1, h.o.2⟩
theorem OwnE.mono {B' : Nat} (h : OwnE E w B T v l) (hB : B' ≤ B) : OwnE E w B' T v l :=
  ⟨h.o.1, h.o.2.imp id fun ⟨g, cap, cur, h1, h2, h3⟩ => ⟨g, cap, cur, h1, Nat.le_trans hB h2, h3⟩⟩
theorem OwnE.lt (h : OwnE E w B T v l) : ∀ k, v.ownBlock = some k → B ≤ k ∧ k < w.heap.size := h.o.lt
theorem OwnE.kept {v' : Value} (h : OwnE E w B T v l) (hk : KeptBut v' w w') (ha : Apart v v') : OwnE E w' B T v l := by
  refine ⟨h.o.1, ?_⟩
  rcases h.o.2 with h1 | ⟨g, cap, cur, h1, h2, h3, h4⟩
  · exact .inl h1
  · refine .inr ⟨g, cap, cur, h1, h2, ?_, h4⟩
    rw [hk g (Array.getElem?_eq_some_iff.1 h3).1 (ha g (by rw [h1]; rfl))]; exact h3
theorem OwnE.below {C : Nat} (h : OwnE E w B T v l) (hb : Below C w w') (hC : ∀ k, v.ownBlock = some k → k < C) : OwnE E w' B T v l := by
  refine ⟨h.o.1, ?_⟩
  rcases h.o.2 with h1 | ⟨g, cap, cur, h1, h2, h3, h4⟩
  · exact .inl h1
  · exact .inr ⟨g, cap, cur, h1, h2, by rw [hb.block g (hC g (by rw [h1]; rfl))]; exact h3, h4⟩
theorem OwnE.after (h : OwnE E w B T v l) (hb : Below w.heap.size w w') : OwnE E w' B T v l := h.below hb fun k hk => (h.o.lt k hk).2
theorem OwnE.alloc (h : OwnE E w B T v l) (o : Obj) : OwnE E (w.alloc o) B T v l := ⟨h.o.alloc o⟩
theorem OwnE.setOther (h : OwnE E w B T v l) {a : Addr} (hne : v.ownBlock ≠ some a.block) (u : Value) : OwnE E (w.setCell a u) B T v l := by
  refine ⟨h.o.1, ?_⟩
  rcases h.o.2 with h1 | ⟨g, cap, cur, h1, h2, h3, h4⟩
  · exact .inl h1
  · refine .inr ⟨g, cap, cur, h1, h2, ?_, h4⟩
    rw [Below.heap_setCell _ _ _ _ (fun e => hne (by rw [h1, ← e]; rfl))]; exact h3
/-- A row that was laid. -/
theorem OwnE.lit (E : Enc α) (w : World) (T : TypeId) (l : List α) (cs : Array Value) (hc : cs.toList = E.all l) (hl : l.length ≤ maxLen) : OwnE E (w.alloc (.cells cs T)) w.heap.size T (.slice (some ⟨w.heap.size, 0, none⟩) l.length l.length) l := by
  have := World.ownsRow_lit (base := w.heap.size) (e := T) (size := E.k) w cs l.length (Nat.le_refl _) hl (by rw [← Array.length_toList, hc, E.all_len])
  rw [hc] at this
  exact ⟨this⟩
end
theorem append_block {P : Program} {S T : TypeId} {i : TypeInfo} {z : Value} {bytes : Nat} (E : Enc α) (hT : P.underlying S = some (.slice T)) (hi : P.info? T = some i) (hz : i.zero = some z) (hs : i.size = E.k) (hy : i.bytes = bytes)
    {w : World} {B : Nat} {v v' : Value} {w' : World} {l m : List α} (h : w.ownsRow B T E.k v l.length (E.all l)) (a : Addr) (c : Nat)
    (hnews : ∀ j u, (E.all m)[j]? = some u → w.cell? (a.add j) = some u) (hm0 : 0 < m.length) (hm : (l.length + m.length) * bytes ≤ 140737488355328) (hl : l.length + m.length ≤ 140737488355328)
    (h1 : (Builtin.append_ #[S, S] S #[v, .slice (some a) m.length c]).run P w = .ok v' w') : v'.ownBlock = v.ownBlock ∨ v'.ownBlock = some w.heap.size := by
  have hml : (E.all m).length = m.length * i.size := by rw [E.all_len, hs]
  rcases h.2 with ⟨rfl, h0⟩ | ⟨g, cap, cur, rfl, hb, hg, hnc, hcm, hcs, htake⟩
  · have hr := run_append_nil (P := P) w S S T i z hT hi hz a m.length c (E.all m) hml hnews hm0 (by omega) (by rw [hy]; have := Nat.mul_le_mul_right bytes (show m.length ≤ l.length + m.length by omega); omega)
    rw [hr] at h1
    have := congrArg (fun r => match r with | Result.ok v _ => v.ownBlock | _ => none) h1
    right
    simpa [Value.ownBlock] using this.symm
  · by_cases hroom : l.length + m.length ≤ cap
    · have hr := run_append_room (P := P) w S S T i hT hi g l.length cap cur hg a m.length c (E.all m) hml hnews (E.all_one m) hroom (by rw [hs, hcs, E.all_len, ← Nat.add_mul]; exact Nat.mul_le_mul_right _ hroom)
      rw [hr] at h1
      have := congrArg (fun r => match r with | Result.ok v _ => v.ownBlock | _ => none) h1
      left
      simpa [Value.ownBlock] using this.symm
    · have holds : ∀ j u, (E.all l)[j]? = some u → w.cell? ((⟨g, 0, none⟩ : Addr).add j) = some u := h.cells (g := g) rfl
      have hr := run_append_grow (P := P) w S S T i z hT hi hz ⟨g, 0, none⟩ l.length cap (E.all l) (by rw [hs, E.all_len]) holds a m.length c (E.all m) hml hnews (by omega) (by unfold maxLen at hcm; omega) (by rw [hy]; exact growslice_fits (by omega) hm)
      rw [hr] at h1
      have := congrArg (fun r => match r with | Result.ok v _ => v.ownBlock | _ => none) h1
      right
      simpa [Value.ownBlock] using this.symm
/-- One more; what stands in other blocks stays. -/
theorem OwnE.push {P : Program} {S T : TypeId} {i : TypeInfo} {z : Value} {bytes : Nat} {E : Enc α} (hT : P.underlying S = some (.slice T)) (hi : P.info? T = some i) (hz : i.zero = some z) (hs : i.size = E.k) (hy : i.bytes = bytes) (hzs : z.cells.size = E.k)
    {w : World} {B : Nat} {v : Value} {l : List α} (h : OwnE E w B T v l) (a : α) (cs : Array Value) (hcs : cs.toList = E.f a) (hB : B ≤ w.heap.size) (hm : (l.length + 1) * bytes ≤ 140737488355328) (hl : l.length + 1 ≤ 140737488355328) :
    ∃ v' w', (Builtin.append_ #[S, S] S #[v, .slice (some ⟨w.heap.size, 0, none⟩) 1 1]).run P (w.alloc (.cells cs T)) = .ok v' w' ∧ OwnE E w' B T v' (l ++ [a]) ∧ Below B w w' ∧ KeptBut v w w' ∧ (v'.ownBlock = v.ownBlock ∨ v'.ownBlock = some (w.heap.size + 1)) := by
  have hnews : ∀ j u, (E.all [a])[j]? = some u → (w.alloc (.cells cs T)).cell? ((⟨w.heap.size, 0, none⟩ : Addr).add j) = some u := fun j u hj => by
    rw [addr_at, World.cell?_alloc_mark, Nat.zero_add]
    rw [E.all_single, ← hcs] at hj
    simpa using hj
  obtain ⟨v', w', h1, h2, h3, h4⟩ := run_append_own (P := P) (w.alloc (.cells cs T)) B S S T i z E.k bytes hT hi hz hs hy hzs E.pos v l.length (E.all l) (h.o.alloc _) ⟨w.heap.size, 0, none⟩ 1 1 (E.all [a]) (by rw [E.all_len]; rfl) hnews
    (E.all_one _) (by unfold maxLen; omega) hm (by simp; omega)
  refine ⟨v', w', h1, ⟨by rw [List.length_append, E.all_append]; exact h2⟩, ((Below.refl B w).alloc hB _).grown h3 (by simp; omega) (fun k hk => (h.o.lt k hk).1), fun k hk hne => ?_, ?_⟩
  · rw [h3.block k (by simp; omega) (Ne.symm hne)]
    exact Below.heap_alloc w _ k hk
  · have := append_block E hT hi hz hs hy (m := [a]) (h.o.alloc (.cells cs T)) ⟨w.heap.size, 0, none⟩ 1 hnews (by simp) hm (by simpa using hl) h1
    simpa using this
/-- A list more. -/
theorem OwnE.pushAll {P : Program} {S T : TypeId} {i : TypeInfo} {z : Value} {bytes : Nat} {E : Enc α} (hT : P.underlying S = some (.slice T)) (hi : P.info? T = some i) (hz : i.zero = some z) (hs : i.size = E.k) (hy : i.bytes = bytes) (hzs : z.cells.size = E.k)
    {w : World} {B : Nat} {v u : Value} {l m : List α} (h : OwnE E w B T v l) (hu : ReadsE E w u m) (hB : B ≤ w.heap.size) (hm : (l.length + m.length) * bytes ≤ 140737488355328) (hl : l.length + m.length ≤ 140737488355328) :
    ∃ v' w', (Builtin.append_ #[S, S] S #[v, u]).run P w = .ok v' w' ∧ OwnE E w' B T v' (l ++ m) ∧ Below B w w' ∧ KeptBut v w w' ∧ (v' = .slice none 0 0 → v = .slice none 0 0) := by
  rcases hu with ⟨⟨a0, c0, rfl⟩, rfl⟩ | ⟨b, off, cap, rfl, hb, hc⟩
  · rcases h.o.2 with ⟨rfl, h0⟩ | ⟨g, cap, cur, rfl, hbg, hg, hnc, r⟩
    · exact ⟨_, w, run_append_nothing hT hi S none 0 0 (Nat.le_refl _) w, by rw [List.append_nil]; exact h, Below.refl _ _, fun _ _ _ => rfl, id⟩
    · exact ⟨_, w, run_append_nothing hT hi S (some ⟨g, 0, none⟩) l.length cap hnc w, by rw [List.append_nil]; exact h, Below.refl _ _, fun _ _ _ => rfl, id⟩
  · obtain ⟨v', w', h1, h2, h3, h4⟩ := run_append_own (P := P) w B S S T i z E.k bytes hT hi hz hs hy hzs E.pos v l.length (E.all l) h.o ⟨b, off, none⟩ m.length cap (E.all m) (E.all_len m)
      (fun j u hj => by rw [addr_at]; exact hc j u hj) (E.all_one m) (by unfold maxLen; omega) hm hB
    exact ⟨v', w', h1, ⟨by rw [List.length_append, E.all_append]; exact h2⟩, (Below.refl B w).grown h3 hB (fun k hk => (h.o.lt k hk).1), fun k hk hne => h3.block k hk (Ne.symm hne), fun e => (h4.1 e).1⟩
end Go.Proofs.YtfadglcpapiklaaGreatDoor
end
section
namespace Go.Proofs.YtfadglcpapiklaaGreatDoor
open Go.RowKit
set_option linter.unusedVariables false
set_option linter.unusedSimpArgs false

/-- What stands in a row when cells were laid over it. -/
def overL (cur : List Value) (o : Nat) (news : List Value) : List Value := cur.take o ++ news ++ cur.drop (o + news.length)
theorem overL_length (cur : List Value) (o : Nat) (news : List Value) (h : o + news.length ≤ cur.length) : (overL cur o news).length = cur.length := by
  simp [overL]; omega
theorem rowk_clear {P : Program} {T elem : TypeId} {i : TypeInfo} {z : Value} (hu : P.underlying T = some (.slice elem)) (hi : P.info? elem = some i) (hz : i.zero = some z) (w : World) (g o n c : Nat) (h0 : 0 < n) (cur : Array Value) (hg : w.heap[g]? = some (.cells cur elem (0, 0)))
    (zs : List Value) (hzs : (Builtin.zeroCells z.cells n).toList = zs) (h1 : ∀ u ∈ zs, u.oneCell' = true) (hfit : o + zs.length ≤ cur.size) (ty : TypeId) :
    (Builtin.clear_ #[T] ty #[.slice (some ⟨g, o, none⟩) n c]).run P w = .ok (.tuple #[]) (w.setRow g (overL cur.toList o zs).toArray) := by
  have hst := run_storeCells_at P g o elem zs 0 cur w hg (by simpa using hfit) h1
  simp only [Nat.add_zero] at hst
  cases n with
  | zero => omega
  | succ n => simp [Builtin.clear_, run_underlying hu, zeroValue, typeInfo, hi, hz, hzs, hst, overL]
theorem overL_take_le (cur : List Value) (o : Nat) (news : List Value) (k : Nat) (hk : k ≤ o) (ho : o ≤ cur.length) : (overL cur o news).take k = cur.take k := by
  have e : (cur.take o).length = o := by rw [List.length_take]; omega
  unfold overL
  rw [List.append_assoc, List.take_append_of_le_length (by omega), List.take_take, Nat.min_eq_left hk]
section
variable {α : Type} {E : Enc α}
theorem OwnE.row {w : World} {B : Nat} {T : TypeId} {g n cap : Nat} {l : List α} (h : OwnE E w B T (.slice (some ⟨g, 0, none⟩) n cap) l) :
    n = l.length ∧ B ≤ g ∧ ∃ cur, w.heap[g]? = some (.cells cur T (0, 0)) ∧ l.length ≤ cap ∧ cap ≤ maxLen ∧ cur.size = cap * E.k ∧ cur.toList.take (l.length * E.k) = E.all l := by
  rcases h.o.2 with ⟨h1, _⟩ | ⟨g', cap', cur, h1, h2, h3, h4, h5, h6, h7⟩
  · cases h1
  · simp at h1
    obtain ⟨rfl, rfl, rfl⟩ := h1
    exact ⟨rfl, h2, cur, h3, h4, h5, h6, h7⟩
theorem OwnE.ofRow {w : World} {B : Nat} {T : TypeId} {g cap : Nat} {l : List α} {cur : Array Value} (hB : B ≤ g) (hg : w.heap[g]? = some (.cells cur T (0, 0))) (h1 : l.length ≤ cap) (h2 : cap ≤ maxLen) (h3 : cur.size = cap * E.k) (h4 : cur.toList.take (l.length * E.k) = E.all l) :
    OwnE E w B T (.slice (some ⟨g, 0, none⟩) l.length cap) l := ⟨E.all_len l, .inr ⟨g, cap, cur, rfl, hB, hg, h1, h2, h3, h4⟩⟩
theorem take_of_prefix {cur : List Value} {m : Nat} {xs : List Value} (h : cur.take m = xs) (k : Nat) (hk : k ≤ m) : cur.take k = xs.take k := by
  rw [← h, List.take_take, Nat.min_eq_left hk]
end
end Go.Proofs.YtfadglcpapiklaaGreatDoor
end
section
namespace Go.Proofs.YtfadglcpapiklaaGreatDoor
open Go.RowKit
set_option linter.unusedVariables false
set_option linter.unusedSimpArgs false

def byteVal (b : UInt8) : Value := .int .u8 ((b.toNat : Nat) : Int)
def lineOf (l : List UInt8) : ByteArray := ⟨l.toArray⟩
theorem lineOf_size (l : List UInt8) : (lineOf l).size = l.length := by show (lineOf l).data.size = _; simp [lineOf]
theorem list_lineOf (l : List UInt8) : (lineOf l).data.toList = l := by simp [lineOf]
theorem Tryz.infoB : (Tryz.prog.info? 5).map (fun i => (i.zero, i.size, i.bytes)) = some (some (.int .u8 0), 1, 1) := by kernel_rfl
/-- Block g holds just the bytes l. -/
structure BRow (w : World) (g : Nat) (l : List UInt8) : Prop where
  blk : w.heap[g]? = some (.cells (l.map byteVal).toArray 5 (0, 0))
theorem BRow.lt {w : World} {g : Nat} {l : List UInt8} (h : BRow w g l) : g < w.heap.size := by
  rcases Nat.lt_or_ge g w.heap.size with h1 | h1
  · exact h1
  · have := h.blk; rw [Array.getElem?_eq_none h1] at this; cases this
theorem BRow.cell {w : World} {g : Nat} {l : List UInt8} (h : BRow w g l) {i : Nat} (hi : i < l.length) : w.cell? ⟨g, i, none⟩ = some (.int .u8 (((l.getD i 0).toNat : Nat) : Int)) := by
  simp only [World.cell?, h.blk]
  simp [byteVal, List.getD_eq_getElem?_getD, hi]
theorem BRow.frozen {w : World} {g : Nat} {l : List UInt8} (h : BRow w g l) (i : Nat) : w.frozen? ⟨g, i, none⟩ = false := by
  simp [World.frozen?, h.blk]
theorem BRow.drew {w : World} {g : Nat} {l : List UInt8} (h : BRow w g l) : BRow w.drew g l := ⟨h.blk⟩
theorem BRow.below {w w' : World} {B g : Nat} {l : List UInt8} (h : BRow w g l) (hb : Below B w w') (hg : g < B) : BRow w' g l := ⟨(hb.block g hg).trans h.blk⟩
theorem BRow.alloc {w : World} {g : Nat} {l : List UInt8} (h : BRow w g l) (o : Obj) : BRow (w.alloc o) g l := h.below ((Below.refl w.heap.size w).alloc (Nat.le_refl _) o) h.lt
theorem BRow.other {w : World} {g g' : Nat} {l : List UInt8} (h : BRow w g l) (hne : g ≠ g') (i : Nat) (v : Value) : BRow (w.setCell ⟨g', i, none⟩ v) g l :=
  ⟨(Below.heap_setCell w ⟨g', i, none⟩ v g hne).trans h.blk⟩
theorem BRow.set {w : World} {g : Nat} {l : List UInt8} (h : BRow w g l) {i : Nat} (hi : i < l.length) (b : UInt8) (v : Int) (hv : v = ((b.toNat : Nat) : Int)) : BRow (w.setCell ⟨g, i, none⟩ (.int .u8 v)) g (l.set i b) := by
  subst hv
  refine ⟨?_⟩
  have hb := h.blk
  simp [World.setCell, Array.getElem?_modify, hb, List.map_set, byteVal]
/-- What was made by 'make'. -/
theorem BRow.made (w : World) (n : Nat) : BRow (w.alloc (.cells (madeCells #[.int .u8 0] n) 5)) w.heap.size (List.replicate n 0) := by
  refine ⟨?_⟩
  rw [heap_alloc_new]
  congr 2
  apply Array.ext
  · simp [madeCells]
  · intro i h1 h2
    simp [madeCells, byteVal, Nat.mod_one]
theorem BRow.make_run (w : World) (n : Nat) (h : n ≤ 281474976710656) :
    ∃ w1, (Instr.makeSlice 113 (.int .i64 (n : Int)) (.int .i64 (n : Int))).run Tryz.prog w = .ok (.slice (some ⟨w.heap.size, 0, none⟩) n n) w1 ∧ BRow w1 w.heap.size (List.replicate n 0) ∧ Below w.heap.size w w1 ∧ w1.heap.size = w.heap.size + 1 :=
  ⟨_, run_make_row' 113 5 (.int .u8 0) 1 Tryz.underlying113 Tryz.infoB rfl .i64 .i64 n (by omega) (by omega) w, BRow.made w n, (Below.refl _ _).alloc (Nat.le_refl _) _, by simp⟩
theorem addr_add (g j : Nat) : (⟨g, 0, none⟩ : Addr).add j = ⟨g, j, none⟩ := by simp [Addr.add]; intro h; exact h.symm
/-- What is made a string. -/
theorem BRow.str {w : World} {g : Nat} {l : List UInt8} (h : BRow w g l) (n cap : Nat) (hn : n = l.length) : (convert 113 9 (.slice (some ⟨g, 0, none⟩) n cap)).run Tryz.prog w = .ok (.string (lineOf l)) w := by
  subst hn
  refine run_convert_bytes_back (P := Tryz.prog) w 113 9 5 ⟨g, 0, none⟩ cap l Tryz.underlying113 Tryz.underlying5 Tryz.underlying9 (fun j hj => ?_)
  rw [addr_add, h.cell hj, List.getD_eq_getElem?_getD, List.getElem?_eq_getElem hj]; rfl

/-- Block g begins with the bytes l; it is what '[]byte(s)' makes: spare room, and the run-time's mark behind it. -/
structure MRow (w : World) (g C : Nat) (l : List UInt8) : Prop where
  blk : ∃ cur : Array Value, w.heap[g]? = some (.cells cur 5 (C, C + 1)) ∧ cur.size = C ∧ ∀ j, j < l.length → cur[j]? = some (.int .u8 (((l.getD j 0).toNat : Nat) : Int))
  room : l.length ≤ C
theorem MRow.lt {w : World} {g C : Nat} {l : List UInt8} (h : MRow w g C l) : g < w.heap.size := by
  obtain ⟨cur, hb, _⟩ := h.blk
  rcases Nat.lt_or_ge g w.heap.size with h1 | h1
  · exact h1
  · rw [Array.getElem?_eq_none h1] at hb; cases hb
theorem MRow.cell {w : World} {g C : Nat} {l : List UInt8} (h : MRow w g C l) {i : Nat} (hi : i < l.length) : w.cell? ⟨g, i, none⟩ = some (.int .u8 (((l.getD i 0).toNat : Nat) : Int)) := by
  obtain ⟨cur, hb, hC, hc⟩ := h.blk
  have := hc i hi
  simp only [World.cell?, hb]
  simpa using this
theorem MRow.frozen {w : World} {g C : Nat} {l : List UInt8} (h : MRow w g C l) {i : Nat} (hi : i < l.length) : w.frozen? ⟨g, i, none⟩ = false := by
  obtain ⟨cur, hb, hC, hc⟩ := h.blk
  have := h.room
  simp [World.frozen?, hb]
  omega
theorem MRow.drew {w : World} {g C : Nat} {l : List UInt8} (h : MRow w g C l) : MRow w.drew g C l := ⟨h.blk, h.room⟩
theorem MRow.below {w w' : World} {B g C : Nat} {l : List UInt8} (h : MRow w g C l) (hb : Below B w w') (hg : g < B) : MRow w' g C l := by
  obtain ⟨cur, h1, h2⟩ := h.blk
  exact ⟨⟨cur, (hb.block g hg).trans h1, h2⟩, h.room⟩
theorem MRow.set {w : World} {g C : Nat} {l : List UInt8} (h : MRow w g C l) {i : Nat} (hi : i < l.length) (b : UInt8) (v : Int) (hv : v = ((b.toNat : Nat) : Int)) : MRow (w.setCell ⟨g, i, none⟩ (.int .u8 v)) g C (l.set i b) := by
  subst hv
  obtain ⟨cur, hb, hC, hc⟩ := h.blk
  have hlt := h.lt
  refine ⟨⟨cur.setIfInBounds i (.int .u8 ((b.toNat : Nat) : Int)), ?_, by simpa using hC, fun j hj => ?_⟩, by rw [List.length_set]; exact h.room⟩
  · simp [World.setCell, Array.getElem?_modify, hb]
  · rw [List.length_set] at hj
    have hr := h.room
    rw [Array.getElem?_setIfInBounds, List.getD_eq_getElem?_getD, List.getElem?_set]
    by_cases e : i = j
    · subst e
      rw [if_pos rfl, if_pos (by omega), if_pos rfl, if_pos hi]; rfl
    · rw [if_neg e, if_neg e, hc j hj, List.getD_eq_getElem?_getD]
theorem MRow.make_run (w : World) (s : ByteArray) :
    ∃ cap w1 C, (convert 9 113 (.string s)).run Tryz.prog w = .ok (.slice (some ⟨w.heap.size, 0, none⟩) s.size cap) w1 ∧ MRow w1 w.heap.size C s.data.toList ∧ Below w.heap.size w w1 ∧ w1.heap.size = w.heap.size + 1 := by
  refine ⟨_, _, (bytesRow s (grownCap w s.size 0 5)).size, run_bytes_of_string (P := Tryz.prog) w 9 113 5 s Tryz.underlying9 Tryz.underlying113 Tryz.underlying5, ⟨⟨_, heap_alloc_new _ _, rfl, fun j hj => ?_⟩, ?_⟩, ((Below.refl _ _).drew).alloc (Nat.le_refl _) _, by simp⟩
  · rw [bytesRow_at s _ j (by simpa using hj), List.getD_eq_getElem?_getD, List.getElem?_eq_getElem hj]; rfl
  · simp [bytesRow]
theorem MRow.str {w : World} {g C : Nat} {l : List UInt8} (h : MRow w g C l) (n cap : Nat) (hn : n = l.length) : (convert 113 9 (.slice (some ⟨g, 0, none⟩) n cap)).run Tryz.prog w = .ok (.string (lineOf l)) w := by
  subst hn
  refine run_convert_bytes_back (P := Tryz.prog) w 113 9 5 ⟨g, 0, none⟩ cap l Tryz.underlying113 Tryz.underlying5 Tryz.underlying9 (fun j hj => ?_)
  rw [addr_add, h.cell hj, List.getD_eq_getElem?_getD, List.getElem?_eq_getElem hj]; rfl
end Go.Proofs.YtfadglcpapiklaaGreatDoor
end
section
namespace Go.Proofs.YtfadglcpapiklaaGreatDoor
open Go Go.RowKit
set_option linter.unusedVariables false
set_option linter.unusedSimpArgs false

theorem range_goes {F : Fence} {n : Nat} {P : Program} {g : Operand} {ps : Array Tmp} {assign body : Code} {Q : Exit → Act → World → Prop} {a : Act} {w : World}
    (hro : F.round = none) (h1 : 1 ≤ n) {gf : Nat} {lb : Array Value} (hg : a.eval g = .func (.func gf) #[] lb) (hFg : F.fn gf) (eg : ∀ args w, (callFunc gf args).run P w = .ok (.enter gf args) w)
    (k : Nat) (encs : Nat → Array Value) (hps : ∀ i, (encs i).size = ps.size) (I I' : Nat → World → Prop) (hI : OwnFrom w.heap.size I) (hI' : OwnFrom w.heap.size I') (h0 : I 0 w) (a₁ : Nat → Act)
    (hassign : ∀ (l i : Nat) (W : World) (K : Act → World → Prop), K (a₁ i) W →
      assign.wpIn (F.inRound l) (n - 1 - 1) P (Exit.then K (fun _ _ _ => False)) { tmps := (ps.zip (encs i)).foldl (fun t (p, v) => t.setIfInBounds p v) a.tmps, defers := [] } W)
    (hbody : ∀ (l i : Nat) (W : World), i < k → I' i W → body.wpIn (F.inRound l) (n - 1 - 1) P (fun e _ W' => e = .normal ∧ KeepsFrom w.heap.size W W' ∧ I (i + 1) W') (a₁ i) W)
    (hiter : ∀ (l : Nat) (K : World → Prop) (W : World), (∀ A B : World, KeepsFrom w.heap.size A B → K A → K B) → I 0 W → K W →
      (∀ (i : Nat) (W1 : World), i < k → I' i W1 → K W1 → YieldAt F (n - 1 - 1) P l (encs i) W1 fun e W' => e = .returned (.bool true) ∧ I (i + 1) W' ∧ K W') →
      CallsIn F (n - 1) P gf (#[.func (.yield l) #[] #[]] ++ lb) W fun e W' => (∃ v, e = .returned v) ∧ I k W' ∧ K W')
    (hdone : ∀ (D : Nat) (W : World), w.heap.size ≤ D → I k W → W.heap[D]? = some (.deferred (some [])) → Q .normal { a with defers := { target := .collected D, args := #[] } :: a.defers } W) :
    (Code.rangeFunc g ps assign body).wpIn F n P Q a w := by
  refine wpIn_rangeFunc fun fn hfn => ?_
  rw [hro]
  obtain ⟨R, hR⟩ : ∃ R : LoopState → Loop, R = fun s => { state := s, pending := none, fn, tmps := a.tmps, params := ps, assign, body, defers := w.heap.size } := ⟨_, rfl⟩
  obtain ⟨V, hV⟩ : ∃ V, (w.alloc (.deferred (some []))).alloc (.loop (R .ready)) = V := ⟨_, rfl⟩
  have loopV : V.heap[w.heap.size + 1]? = some (.loop (R .ready)) := by
    have := World.alloc_heap_new (w.alloc (.deferred (some []))) (.loop (R .ready))
    rw [World.size_alloc] at this
    rw [← hV]; exact this
  have defV : V.heap[w.heap.size]? = some (.deferred (some [])) := by
    rw [← hV]; exact (Below.heap_alloc _ _ _ (by simp)).trans (World.alloc_heap_new w _)
  have startV : I 0 V := by rw [← hV]; exact hI.alloc _ (hI.alloc _ h0)
  refine ⟨w.heap.size + 1, [{ target := .collected w.heap.size, args := #[] }], V, { target := .fn (.func gf) lb, args := #[.func (.yield (w.heap.size + 1)) #[] #[]] }, V, gf,
    #[.func (.yield (w.heap.size + 1)) #[] #[]] ++ lb, V, ?_, ?_, ?_, ?_, fun _ => h1, ?_⟩
  · rw [← hV, hR]; exact run_enterLoop_outer _ _ _ _ _
  · simp only [resolve, hg]; simp [go_sem]
  · intro f hf; simp [Target.leads] at hf; subst hf; exact hFg
  · simp [invoke, go_sem, eg]
  · refine (hiter (w.heap.size + 1) (fun W => W.heap[w.heap.size + 1]? = some (.loop (R .ready)) ∧ W.heap[w.heap.size]? = some (.deferred (some []))) V
      (fun A B hk hs => ⟨hk.same _ _ (by omega) hs.1 rfl, hk.same _ _ (Nat.le_refl _) hs.2 rfl⟩) startV ⟨loopV, defV⟩ ?_).mono ?_
    · rintro i W hi hJ ⟨hl, hd⟩
      have hlt := (Array.getElem?_eq_some_iff.1 hl).1
      have hy := run_yield (P := P) (args := encs i) hl (by rw [hR]; exact hps i)
      rw [hR] at hy
      refine ⟨fn, _, assign, body, hy, roundIn_of_wpIn hfn (hassign _ i W _ ⟨_, run_beginRound hl (by rw [hR]), ?_⟩)⟩
      have busy : (W.putObj (w.heap.size + 1) (.loop { R .ready with state := .busy })).heap[w.heap.size + 1]? = some (.loop { R .ready with state := .busy }) := World.putObj_heap_same hlt
      have hd2 : (W.putObj (w.heap.size + 1) (.loop { R .ready with state := .busy })).heap[w.heap.size]? = some (.deferred (some [])) := (World.putObj_heap_other (by omega)).trans hd
      refine wpIn_mono (hbody _ i _ hi (hI'.putObj _ hJ (by omega) hl rfl)) ?_
      rintro e a3 W3 ⟨rfl, hk3, hI3⟩
      have hl3 := hk3.same _ _ (by omega) busy rfl
      have hr := run_endRound (P := P) none hl3
      rw [hR] at hr hl3
      refine ⟨_, _, hr, rfl, hI.putObj _ hI3 (by omega) hl3 rfl, ?_, ?_⟩
      · rw [hR]; exact World.putObj_heap_same (Array.getElem?_eq_some_iff.1 hl3).1
      · exact (World.putObj_heap_other (by omega)).trans (hk3.same _ _ (Nat.le_refl _) hd2 rfl)
    · rintro e W2 ⟨⟨v, rfl⟩, hI2, hl, hd⟩
      have he := run_endLoop (P := P) hl (by rw [hR]; simp)
      rw [show (R .ready).pending = none by rw [hR]] at he
      exact ⟨none, _, he, hdone _ _ (Nat.le_refl _) (hI.putObj _ hI2 (by omega) hl rfl) ((World.putObj_heap_other (by omega)).trans hd)⟩
end Go.Proofs.YtfadglcpapiklaaGreatDoor
end
section
namespace Go.Proofs.YtfadglcpapiklaaGreatDoor
open Go.RowKit Go.ChangeShapes Go.WideShapes
set_option linter.unusedVariables false
set_option linter.unusedSimpArgs false

section
variable {H : Type} {enc : TypeId × Value → H} {P : Program} {w : World} {base b0 : Nat} {held : Bool} {r : Reach}
theorem okWide_at {t e : TypeId} {a : Addr} {len cap : Nat} (ht : P.underlying t = some (.slice e)) (h : Value.okWide P w r b0 t (.slice (some a) len cap)) : a.spot = none ∧ a.block < w.heap.size ∧ len ≤ cap := by
  simp only [Value.okWide, ht, Cell.okWide, Cell.ok] at h
  obtain ⟨h1, _, _, h2, row, cells, h3, _⟩ := h
  refine ⟨h2, ?_, h1⟩
  rcases Nat.lt_or_ge a.block w.heap.size with h | h
  · exact h
  · simp [World.shape?, Array.getElem?_eq_none h] at h3
/-- A list of numbers. -/
theorem open_nums {t e : TypeId} {k : IntKind} {v : Value} {d : DataW H} {p : List MemPlace} (ht : P.underlying t = some (.slice e)) (he : P.underlying e = some (.int k)) (hc : P.cellsOf e = 1)
    (hval : Value.okWide P w r b0 t v) (h : DataW.Trod enc P w base (fun _ => true) held t v d p) :
    ∃ l : List Int, Reads w v (l.map (.int k)) ∧ (∃ a len cap, v = .slice a len cap ∧ len ≤ cap) ∧ (∀ n ∈ l, (Lit.int k n).wf = true) ∧
      (d = .nil ∧ l = [] ∨ ∃ spare, d = .slice (l.map fun n => .lit (.int k n)) spare) := by
  obtain ⟨fuel, hf⟩ := h
  obtain ⟨a0, len0, cap0, rfl⟩ := okWide_slice ht hval
  rcases open_ints ht he hc hf with ⟨hcs, hx⟩ | ⟨a, len, cap, ss, hcs, _, hl, hm, hz, hx, hcell, hwf⟩
  · simp [Value.cells] at hcs
    obtain ⟨rfl, rfl, rfl⟩ := hcs
    simp only [Prod.mk.injEq] at hx
    exact ⟨[], .inl ⟨⟨_, _, rfl⟩, rfl⟩, ⟨_, _, _, rfl, Nat.le_refl _⟩, (fun n hn => by cases hn), .inl ⟨hx.1, rfl⟩⟩
  · simp [Value.cells] at hcs
    obtain ⟨rfl, rfl, rfl⟩ := hcs
    simp only [Prod.mk.injEq] at hx
    simp only [if_true] at hz
    obtain ⟨h1, h2, h3⟩ := okWide_at ht hval
    obtain ⟨b, off, spot⟩ := a
    simp only at h1 h2
    subst h1
    refine ⟨ss.take len0, .inr ⟨b, off, cap0, by simp; omega, h2, fun i hi => ?_⟩, ⟨_, _, _, rfl, h3⟩, fun n hn => hwf n (List.mem_of_mem_take hn), .inr ⟨_, hx.1⟩⟩
    have hi' : i < len0 := by simp at hi; omega
    have := hcell i (by omega)
    rw [addr_at] at this
    rw [this]
    simp [List.getD_eq_getElem?_getD, List.getElem?_take, hi', show i < ss.length by omega]
end
section
variable {H : Type} {P : Program} {ts : List TypeId} {ds : List (DataW H)}
theorem weights_all {e : TypeId} : ∀ {l : List (DataW H)} {d : DataW H} {n : Nat}, d ∈ l → n ∈ d.weights P e → n ∈ DataW.weightsAll P e l
  | x :: l, d, n, h, hn => by
    simp only [DataW.weightsAll, List.mem_append]
    rcases List.mem_cons.1 h with rfl | h
    · exact .inl hn
    · exact .inr (weights_all h hn)
end
end Go.Proofs.YtfadglcpapiklaaGreatDoor
end
section
namespace Go.Proofs.YtfadglcpapiklaaGreatDoor
open Go.RowKit
theorem int_rng {l : List Int} (h : ∀ n ∈ l, (Lit.int .i64 n).wf = true) : ∀ i, i < l.length → -9223372036854775808 ≤ l.getD i 0 ∧ l.getD i 0 ≤ 9223372036854775807 := fun i hi => by
  have := h (l.getD i 0) (by rw [List.getD_eq_getElem?_getD, List.getElem?_eq_getElem hi]; exact List.getElem_mem hi)
  generalize l.getD i 0 = x at *
  simp [Lit.wf, IntKind.min, IntKind.max, IntKind.signed, IntKind.bits] at this
  omega
end Go.Proofs.YtfadglcpapiklaaGreatDoor
end
section
namespace Go.Proofs.YtfadglcpapiklaaGreatDoor
open Go.RowKit Go.ChangeShapes Go.WideShapes
set_option linter.unusedVariables false
set_option linter.unusedSimpArgs false

section
variable {H : Type} {enc : TypeId × Value → H} {P : Program} {w : World} {base b0 : Nat} {spare : Nat → Bool} {held : Bool} {r : Reach}
/-- Each field lies in the cell of its number. -/
def flatF (P : Program) (fs : Array Field) : Bool := (List.range fs.size).all fun i => match fs[i]? with | some f => f.offset == i && P.cellsOf f.type == 1 | none => true
theorem flatF_at {fs : Array Field} (h : flatF P fs = true) {i : Nat} {f : Field} (hf : fs[i]? = some f) : f.offset = i ∧ P.cellsOf f.type = 1 := by
  have hi : i < fs.size := (Array.getElem?_eq_some_iff.1 hf).1
  have := List.all_eq_true.1 h i (List.mem_range.2 hi)
  rw [hf] at this
  simpa using this
theorem trod_fields {t : TypeId} {fs : Array Field} {fuel : Nat} {cs : List Value} {x : DataW H × List MemPlace} (hs : P.underlying t = some (.struct fs)) (ho : flatF P fs = true) (hC : P.cellsOf t = fs.size) (h : DataW.trod enc P w base spare held fuel t cs = some x) :
    ∃ (ys : List (DataW H × List MemPlace)) (n : Nat), x = (.agg (ys.map (·.1)), ys.flatMap (·.2)) ∧ cs.length = fs.size ∧ ys.length = fs.size ∧
      ∀ (i : Nat) (f : Field), fs[i]? = some f → ∃ c y, cs[i]? = some c ∧ ys[i]? = some y ∧ DataW.trod enc P w base spare held n f.type [c] = some y := by
  obtain ⟨ys, n, _, hx, hl, hn, hg⟩ := DataW.trod_struct hs h
  rw [hC] at hl
  refine ⟨ys, n, hx, hl, hn, fun i f hf => ?_⟩
  obtain ⟨h1, h2⟩ := flatF_at ho hf
  have hi : i < fs.size := (Array.getElem?_eq_some_iff.1 hf).1
  have hi1 : i < cs.length := by omega
  have hi2 : i < ys.length := by omega
  refine ⟨cs[i], ys[i], List.getElem?_eq_getElem hi1, List.getElem?_eq_getElem hi2, ?_⟩
  have := hg i f hf
  rw [h1, h2, List.drop_eq_getElem_cons hi1, List.take_succ_cons, List.take_zero, List.getElem?_eq_getElem hi2] at this
  exact this
theorem field_int {ti : TypeId} {n : Nat} {c : Value} {y : DataW H × List MemPlace} (hi : P.underlying ti = some (.int .i64)) (h : DataW.trod enc P w base spare held n ti [c] = some y) : ∃ a : Int, c = .int .i64 a ∧ y.1 = .lit (.int .i64 a) ∧ -9223372036854775808 ≤ a ∧ a ≤ 9223372036854775807 := by
  obtain ⟨a, e1, e2, e3⟩ := DataW.trod_int hi h
  refine ⟨a, by simpa using e1, by rw [e2], ?_⟩
  simp [Lit.wf, IntKind.min, IntKind.max, IntKind.signed, IntKind.bits] at e3; omega
end
section
variable {H : Type} {P : Program} {ts : List TypeId} {ds : List (DataW H)}
end
end Go.Proofs.YtfadglcpapiklaaGreatDoor
end
section
namespace Go.Proofs.YtfadglcpapiklaaGreatDoor
open Go.RowKit Go.ChangeShapes Go.WideShapes Go.Deep
set_option linter.unusedVariables false
set_option linter.unusedSimpArgs false

/-- What a row of structs reads as. -/
def StD {α H : Type} (Good : α → DataW H → Prop) (d : DataW H) (l : List α) : Prop :=
  d = .nil ∧ l = [] ∨ ∃ ds spare, d = .slice ds spare ∧ ds.length = l.length ∧ ∀ i (hi : i < l.length) (hj : i < ds.length), Good l[i] ds[i]
section
variable {H : Type} {enc : TypeId × Value → H} {P : Program} {w : World} {base b0 : Nat} {held : Bool} {r : Reach} {α : Type} [Inhabited α]
theorem open_structs (E : Enc α) {S T : TypeId} (hS : P.underlying S = some (.slice T)) (hk : P.cellsOf T = E.k) {Good : α → DataW H → Prop}
    (hpart : ∀ n cs y, DataW.trod enc P w base (fun _ => true) held n T cs = some y → ∃ x, cs = E.f x ∧ Good x y.1) {fuel : Nat} {cs : List Value} {x : DataW H × List MemPlace} (h : DataW.trod enc P w base (fun _ => true) held fuel S cs = some x) :
    ∃ (l : List α) (v : Value), cs = [v] ∧ ReadsE E w v l ∧ (∃ a c, v = .slice a l.length c ∧ l.length ≤ c ∧ c ≤ 9223372036854775807) ∧ (∀ a ∈ l, ∃ d, Good a d) ∧ StD Good x.1 l := by
  rcases Deep.open_slice hS h with ⟨rfl, rfl⟩ | ⟨a, len, cap, m, n, D, Pl, rfl, _, hl, hm, hmm, rfl, hcell⟩
  · exact ⟨[], _, rfl, .inl ⟨⟨_, _, rfl⟩, rfl⟩, ⟨none, 0, rfl, Nat.le_refl _, by omega⟩, (fun a ha => by cases ha), .inl ⟨rfl, rfl⟩⟩
  · simp only [if_true] at hmm
    subst hmm
    have hm' : m ≤ 9223372036854775807 := by unfold maxLen at hm; omega
    have each : ∀ i, i < len → ∃ y : α, w.cells? base (a.add (i * E.k)) E.k = some (E.f y) ∧ Good y (D i) := by
      intro i hi
      obtain ⟨cs', hc, ht⟩ := hcell i (by omega)
      obtain ⟨y, rfl, hg⟩ := hpart _ _ _ ht
      rw [hk] at hc
      exact ⟨y, hc, hg⟩
    obtain ⟨g, hg⟩ := Go.Deep.choose_lt each
    have hcs : ∀ i, i < len → ∀ j, j < E.k → w.cell? ((a.add (i * E.k)).add j) = (E.f (g i))[j]? := fun i hi j hj => by
      obtain ⟨_, _, hat⟩ := World.cells?_some (hg i hi).1
      exact hat j hj
    have hgood : ∀ y ∈ (List.range len).map g, ∃ d, Good y d := fun y hy => by
      obtain ⟨i, hi, rfl⟩ := List.mem_map.1 hy
      exact ⟨_, (hg i (List.mem_range.1 hi)).2⟩
    refine ⟨(List.range len).map g, _, rfl, ?_, ⟨some a, m, by simp, by simpa using hl, hm'⟩, hgood, .inr ⟨_, _, rfl, by simp, fun i hi hj => ?_⟩⟩
    · rcases Nat.eq_zero_or_pos len with rfl | hpos
      · exact .inl ⟨⟨_, _, rfl⟩, rfl⟩
      · have h0 := hcs 0 hpos 0 E.pos
        have hl0 : 0 < (E.f (g 0)).length := by rw [E.len]; exact E.pos
        rw [List.getElem?_eq_getElem hl0] at h0
        obtain ⟨b, off, spot⟩ := a
        have hb : b < w.heap.size ∧ spot = none := by
          unfold World.cell? at h0
          have e1 : (((⟨b, off, spot⟩ : Addr).add (0 * E.k)).add 0).block = b := by unfold Addr.add; split <;> (split <;> rfl)
          rw [e1] at h0
          split at h0
          · rename_i c T0 F0 hb
            refine ⟨(Array.getElem?_eq_some_iff.1 hb).1, ?_⟩
            cases spot with
            | none => rfl
            | some s => simp [Addr.add] at h0
          · cases h0
        obtain ⟨hb, rfl⟩ := hb
        refine .inr ⟨b, off, m, by simp, hb, fun j u hj => ?_⟩
        have hjl : j < len * E.k := by
          have := (List.getElem?_eq_some_iff.1 hj).1
          rw [E.all_len, List.length_map, List.length_range] at this
          exact this
        have hd : j = j / E.k * E.k + j % E.k := by rw [Nat.mul_comm]; exact (Nat.div_add_mod _ _).symm
        have hr : j % E.k < E.k := Nat.mod_lt _ E.pos
        have ha : j / E.k < len := Nat.div_lt_of_lt_mul (by rwa [Nat.mul_comm])
        generalize j / E.k = q at hd ha
        generalize j % E.k = s at hd hr
        subst hd
        have := E.all_get ((List.range len).map g) q (by simpa using ha) s hr
        rw [this] at hj
        simp only [List.getElem_map, List.getElem_range] at hj
        have := hcs q ha s hr
        rw [addr_at, addr_at] at this
        rw [← Nat.add_assoc, this]; exact hj
    · simp only [List.getElem_map, List.getElem_range]
      exact (hg i (by simpa using hi)).2
end
section
variable {H : Type} {P : Program} {ts : List TypeId} {ds : List (DataW H)} {α : Type}
/-- All weights at most what is reached. -/
def LightD (P : Program) (t : TypeId) (d : DataW H) : Prop := ∀ n ∈ d.weights P t, n ≤ reachBytes
theorem light_arg (h : (DataW.weightsEach P ts ds).all (· ≤ reachBytes) = true) {j : Nat} {t : TypeId} {d : DataW H} (ht : ts[j]? = some t) (hd : ds[j]? = some d) : LightD P t d :=
  fun n hn => of_decide_eq_true (List.all_eq_true.1 h n (DataW.weights_mem_each ht hd n hn))
theorem light_each {n : Nat} {t : TypeId} {d : DataW H} : ∀ {fs : List TypeId} {ys : List (DataW H)} {i : Nat}, fs[i]? = some t → ys[i]? = some d → n ∈ d.weights P t → n ∈ DataW.weightsEach P fs ys := by
  intro fs
  induction fs with
  | nil => intro ys i h; simp at h
  | cons f fs ih =>
    intro ys i h1 h2 h3
    cases ys with
    | nil => simp at h2
    | cons y ys =>
      simp only [DataW.weightsEach, List.mem_append]
      cases i with
      | zero => simp at h1 h2; subst h1 h2; exact .inl h3
      | succ i => exact .inr (ih (by simpa using h1) (by simpa using h2) h3)
theorem light_field {t u : TypeId} {fs : Array Field} {f : Field} {ys : List (DataW H)} {d : DataW H} (h : LightD P t (.agg ys)) (hu : P.underlying t = some (.struct fs)) {i : Nat} (hf : fs[i]? = some f) (hft : f.type = u) (hy : ys[i]? = some d) : LightD P u d :=
  fun n hn => h n (by
    simp only [DataW.weights, hu]
    exact light_each (i := i) (t := u) (by simp [hf, hft]) hy hn)
theorem light_len {S T : TypeId} {xs spare : List (DataW H)} (h : LightD P S (.slice xs spare)) (hS : P.underlying S = some (.slice T)) (hb : 1 ≤ P.bytesOf T) : xs.length ≤ 140737488351232 := by
  have := h ((xs.length + spare.length) * P.bytesOf T) (by simp [DataW.weights, hS])
  have h2 : xs.length * 1 ≤ (xs.length + spare.length) * P.bytesOf T := Nat.mul_le_mul (by omega) hb
  simp [reachBytes] at this
  omega
theorem light_at {S T : TypeId} {xs spare : List (DataW H)} {d : DataW H} (h : LightD P S (.slice xs spare)) (hS : P.underlying S = some (.slice T)) (hd : d ∈ xs) : LightD P T d :=
  fun n hn => h n (by
    simp only [DataW.weights, hS]
    exact List.mem_cons_of_mem _ (List.mem_append.2 (.inl (weights_all hd hn))))
theorem StD.len {S T : TypeId} {Good : α → DataW H → Prop} {d : DataW H} {l : List α} (h : StD Good d l) (hw : LightD P S d) (hS : P.underlying S = some (.slice T)) (hb : 1 ≤ P.bytesOf T) : l.length ≤ 140737488351232 := by
  rcases h with ⟨_, rfl⟩ | ⟨xs, spare, rfl, e, _⟩
  · simp
  · rw [← e]; exact light_len hw hS hb
theorem StD.each {S T : TypeId} {Good : α → DataW H → Prop} {d : DataW H} {l : List α} (h : StD Good d l) (hw : LightD P S d) (hS : P.underlying S = some (.slice T)) : ∀ a ∈ l, ∃ y, Good a y ∧ LightD P T y := by
  intro a ha
  rcases h with ⟨_, rfl⟩ | ⟨xs, spare, rfl, e, g⟩
  · cases ha
  · obtain ⟨i, hi, rfl⟩ := List.getElem_of_mem ha
    exact ⟨xs[i]'(by omega), g i hi (by omega), light_at hw hS (List.getElem_mem _)⟩
end
end Go.Proofs.YtfadglcpapiklaaGreatDoor
end
