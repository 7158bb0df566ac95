/- A whole list appended to what a call owns. -/
import Derived.Test.YtlbjfigdocbffaaSl2
namespace Go.Proofs.Ytlbjfigdocbffaa
open Go.RowKit
set_option linter.unusedVariables false
set_option linter.unusedSimpArgs false

theorem run_append_nothing {P : Program} {T E : TypeId} {i : TypeInfo} (hT : P.underlying T = some (.slice E)) (hi : P.info? E = some i) (ty : TypeId) (a : Option Addr) (n c : Nat) (h : n ≤ c) (w : World) {a0 : Option Addr} {c0 : Nat} :
    (Builtin.append_ #[T, T] ty #[.slice a n c, .slice a0 0 c0]).run P w = .ok (.slice a n c) w := by
  cases a <;> cases a0 <;> simp [Builtin.append_, run_underlying hT, sizeOf, typeInfo, hi, Builtin.lenOf, Builtin.firstCells, h, storeCells, loadCells, loadCellsFrom]
/-- An append whose run is known, of whatever is appended. -/
theorem wpList_append_run2 {P : Program} {w : World} {ops : Array Oper} {rest : List Oper} {o : Oper} {a : Act} {Q : Exit → Act → World → Prop} {t u ty : TypeId} {v xv v' : Value} {w' : World}
    (hr : (Builtin.append_ #[t, u] ty #[v, xv]).run P w = .ok v' w') (s x : Operand) (hgd : o.guard = none) (ho : o.op = Op.call { callee := Callee.builtin Builtin.append, args := #[s, x], argTypes := #[t, u] })
    (hty : o.type = ty) (hs : a.eval s = v) (hx : a.eval x = xv) (h : wpList P ops Q rest (a.put o.dst v') w') : wpList P ops Q (o :: rest) a w := by
  subst hty
  refine wpList_plain hgd fun K hK => ?_
  unfold Oper.wp
  simp [execOp, ho, resolve, invoke, builtin, hs, hx, hr, Result.andThen]
  exact hK _ _ h
/-- A list more. -/
theorem Own.pushAll {P : Program} {T E : TypeId} {i : TypeInfo} {z : Value} {bytes : Nat} (hT : P.underlying T = some (.slice E)) (hi : P.info? E = some i) (hz : i.zero = some z) (hs : i.size = 1) (hy : i.bytes = bytes) (hzs : z.cells.size = 1)
    {w : World} {B : Nat} {v u : Value} {xs ys : List Value} (h : Own w B E v xs) (hu : Reads w u ys) (hx : ∀ x ∈ ys, x.oneCell' = true) (hB : B ≤ w.heap.size) (hm : (xs.length + ys.length) * bytes ≤ 140737488355328) (hl : xs.length + ys.length ≤ 140737488355328) :
    ∃ v' w', (Builtin.append_ #[T, T] T #[v, u]).run P w = .ok v' w' ∧ Own w' B E v' (xs ++ ys) ∧ Below B w w' ∧ ∀ k, k < w.heap.size → v.ownBlock ≠ some k → w'.heap[k]? = w.heap[k]? := by
  rcases hu with ⟨⟨a0, c0, rfl⟩, rfl⟩ | ⟨b, off, cap, rfl, hb, hc⟩
  · rcases h.o.2 with ⟨rfl, h0⟩ | ⟨g, cap, cur, rfl, hbg, hg, hnc, r⟩
    · exact ⟨_, w, run_append_nothing hT hi T none 0 0 (Nat.le_refl _) w, by rw [List.append_nil]; exact h, Below.refl _ _, fun _ _ _ => rfl⟩
    · exact ⟨_, w, run_append_nothing hT hi T (some ⟨g, 0, none⟩) xs.length cap hnc w, by rw [List.append_nil]; exact h, Below.refl _ _, fun _ _ _ => rfl⟩
  · obtain ⟨v', w', h1, h2, h3, h4⟩ := run_append_own (P := P) w B T T E i z 1 bytes hT hi hz hs hy hzs (by decide) v xs.length xs h.o ⟨b, off, none⟩ ys.length cap ys (by omega)
      (fun j u hj => by
        have hj' : j < ys.length := by
          rcases Nat.lt_or_ge j ys.length with h | h
          · exact h
          · rw [List.getElem?_eq_none h] at hj; cases hj
        rw [addr_at, hc j hj', List.getD_eq_getElem?_getD, hj]; rfl)
      hx (by unfold maxLen; omega) hm hB
    exact ⟨v', w', h1, ⟨by rw [List.length_append]; exact h2⟩, (Below.refl B w).grown h3 hB (fun k hk => (h.o.lt k hk).1), fun k hk hne => h3.block k hk (Ne.symm hne)⟩
/-- 'append' of what was made: noughts, in new memory. -/
theorem run_append_made {P : Program} {T E I : TypeId} {k : IntKind} {i : TypeInfo} {z : Value} {bytes : Nat} (hT : P.underlying T = some (.slice E)) (hI : P.underlying I = some (.int k)) (hi : P.info? E = some i) (hz : i.zero = some z) (hs : i.size = 1) (hy : i.bytes = bytes) (hzs : z.cells = #[z])
    (ty : TypeId) (w : World) (n : Nat) (h0 : 1 ≤ n) (hn : n ≤ 1000) (hb : bytes ≤ 1000) :
    ∃ c cur, n ≤ c ∧ c ≤ maxLen ∧ cur.size = c ∧ (Builtin.append_ #[T, I] ty #[.slice none 0 0, .int .i64 (n : Int)]).run P w = .ok (.slice (some ⟨w.heap.size, 0, none⟩) n c) (w.drew.alloc (.cells cur E)) := by
  have e1 : IntKind.i64.wrap (n : Int) = (n : Int) := IntWalk.i64_in _ (by omega)
  have e2 : ¬ ((n : Int) < 0) := by omega
  have e3 : ¬ (281474976710656 < (n : Int) * (i.bytes : Int)) := by
    have : n * i.bytes ≤ 1000 * 1000 := Nat.mul_le_mul hn (by omega)
    have e : (n : Int) * (i.bytes : Int) = ((n * i.bytes : Nat) : Int) := by push_cast; rfl
    omega
  have e4 : ¬ (n = 0) := by omega
  have e5 : ¬ (9223372036854775807 < (n : Int)) := by omega
  have e6 : ¬ (281474976710656 < Builtin.nextslicecap n 0 * i.bytes) := by
    rw [nextslicecap_zero (by omega)]
    have : n * i.bytes ≤ 1000 * 1000 := Nat.mul_le_mul hn (by omega)
    omega
  have hge := grownCap_ge w n 0 E
  refine ⟨grownCap w n 0 E, Builtin.zeroCells #[z] n ++ Builtin.zeroCells #[z] (grownCap w n 0 E - n), hge, grownCap_le_maxLen w n 0 E (by unfold maxLen; omega), by simp [size_zeroCells]; omega, ?_⟩
  simp [Builtin.append_, run_underlying hT, run_underlying hI, sizeOf, typeInfo, zeroValue, hi, hz, hs, e1, e2, e3, e4, e5, e6, asInt, asIntOf, Question.forced, run_firstCells_none, newRow, grownCap, hzs]
end Go.Proofs.Ytlbjfigdocbffaa
