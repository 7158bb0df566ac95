/- Steps of a region whose runs are known, for whatever program. -/
import Derived.Test.YtlbjfigdocbffaaMemMap
import Derived.Test.YtlbjfigdocbffaaRowOps
import Derived.Test.YtlbjfigdocbffaaBytes
import Derived.Test.YtlbjfigdocbffaaCls
import Derived.Test.YtlbjfigdocbffaaOwn
import Derived.Tactics
import Derived.Tactics2
import Derived.LoopTactic
import Derived.RegionTactic
import Derived.Outline
import Derived.Deep.RegionWith
import Derived.Deep.MidRow
import Derived.Deep.WholeRow
import Derived.Deep.RegionHeld3
import Derived.Laws.Cover3
import Derived.Laws.OwnMore
import Derived.WideShapes
import Derived.WalkLawsBesides
import Derived.OrdersHeld
import Derived.Deep.RegionHeld
namespace Go.Proofs.Ytlbjfigdocbffaa
open Go.RowKit
set_option linter.unusedVariables false
set_option linter.unusedSimpArgs false

theorem in64_nat (i : Nat) (h : i ≤ 9223372036854775807) : In64 (i : Int) := by
  have h1 : IntKind.i64.min = -9223372036854775808 := by decide
  have h2 : IntKind.i64.max = 9223372036854775807 := by decide
  unfold In64; simp [Lit.wf, h1, h2]; omega
/-- A load whose run is known. -/
theorem wpList_load_run {P : Program} {w : World} {ops : Array Oper} {rest : List Oper} {o : Oper} {a : Act} {Q : Exit → Act → World → Prop} {ty : TypeId} {p v : Value}
    (hr : (Instr.loadAt ty p).run P w = .ok v w) (hg : o.guard = none) (x : Operand) (hop : o.op = .load ty x) (hx : a.eval x = p) (h : wpList P ops Q rest (a.put o.dst v) w) : wpList P ops Q (o :: rest) a w := by
  refine wpList_plain hg fun K' hK' => ?_
  unfold Oper.wp execOp
  simp only [hop, hx, Sem.run_bind, Sem.run_pure, hr, Result.andThen_ok]
  exact hK' _ _ h
theorem fold_set : ∀ (l : List Value) (k : Nat) (cs : Array Value) (j : Nat), ((l.zipIdx k).foldl (fun (cs : Array Value) (p : Value × Nat) => cs.setIfInBounds (0 + p.2) p.1) cs)[j]? = if k ≤ j ∧ j < k + l.length ∧ j < cs.size then l[j - k]? else cs[j]?
  | [], k, cs, j => by
    rw [if_neg (by show ¬ (k ≤ j ∧ j < k + 0 ∧ j < cs.size); omega)]; rfl
  | a :: l, k, cs, j => by
    rw [List.zipIdx_cons, List.foldl_cons, fold_set l (k + 1)]
    simp only [Array.size_setIfInBounds, List.length_cons, Nat.zero_add]
    by_cases h : k + 1 ≤ j ∧ j < k + 1 + l.length ∧ j < cs.size
    · rw [if_pos h, if_pos (by omega), show j - k = (j - (k + 1)) + 1 by omega, List.getElem?_cons_succ]
    · rw [if_neg h, Array.getElem?_setIfInBounds]
      by_cases e : k = j
      · subst e
        by_cases h2 : k < cs.size
        · rw [if_pos rfl, if_pos h2, if_pos (by omega)]; simp
        · rw [if_pos rfl, if_neg h2, if_neg (by omega), Array.getElem?_eq_none (by omega)]
      · rw [if_neg e, if_neg (by omega)]
theorem fill_one (cs Z : Array Value) (hZ : Z.size = cs.size) : Instr.fill (fun j => some (j * cs.size, cs.size)) Z [(0, .agg cs)] = some cs := by
  have hc : (Value.agg cs).cells = cs := rfl
  unfold Instr.fill
  simp only [hc, Nat.zero_mul, Nat.zero_add, ne_eq, not_true_eq_false, decide_false, Bool.false_or]
  rw [if_neg (by simp; omega)]
  unfold Instr.fill
  congr 1
  apply Array.ext_getElem?
  intro j
  have := fold_set cs.toList 0 Z j
  rw [← Array.foldl_toList, Array.toList_zipIdx]
  simp only [Nat.zero_add] at this
  rw [this]
  by_cases h : j < cs.size
  · rw [if_pos (by simp; omega)]; simp
  · rw [if_neg (by simp; omega), Array.getElem?_eq_none (by omega), Array.getElem?_eq_none (by omega)]
/-- A slice of one element of many cells. -/
theorem build_one {P : Program} {S T : TypeId} {i : TypeInfo} {z : Value} (hT : P.underlying S = some (.slice T)) (hi : P.info? T = some i) (hz : i.zero = some z) (cs : Array Value) (hs : i.size = cs.size) (hzs : z.cells.size = cs.size) (h0 : 0 < cs.size) (hb : cs.size ≤ 16777216) (w : World) :
    (Instr.buildSlice S 1 #[(0, .agg cs)]).run P w = .ok (.slice (some ⟨w.heap.size, 0, none⟩) 1 1) (w.alloc (.cells cs T)) := by
  have hf := fill_one cs ((Array.range cs.size).map (fun j => z.cells[j % z.cells.size]!)) (by simp)
  have hn : ¬ cs.size = 0 := by omega
  have hl : ¬ (16777216 < cs.size) := by omega
  simp [Instr.buildSlice, run_underlying hT, sizeOf, typeInfo, hi, hs, hl, hn, zeroValue, hz, newRow, hf]
section
variable {P : Program} {ops : Array Oper} {o : Oper} {a : Act} {w w' : World} {K : Act → World → Prop} {Q : Exit → Act → World → Prop} {E : Prop}
theorem wpAnyH_takeD {md : Region.Mode} {Q : Exit → Act → World → Prop} {S : World → Prop} {i : Nat} {oi : Oper} {v : Value} {fuel : Nat} {listed : Array Bool} (d : Option Tmp) (hi : ops[i]? = some oi)
    (hs : Region.noSelect ops = true) (hf : Region.free md ops listed i = true) (hr : (Region.ready md ops listed).contains i = true) (hd : oi.dst = d)
    (hQ : ∀ c a w, Q (.panic c) (a.put oi.dst v) w → Q (.panic c) a w) (hy : YieldsIf P ops S oi v a) (hS : S w)
    (h : wpAnyH P md ops Q S fuel (listed.setIfInBounds i true) (a.put d v) w) : wpAnyH P md ops Q S (fuel + 1) listed a w := by
  subst hd
  exact wpAnyH_take hi hs hf hr hQ hy hS h
theorem step_load_run {ty : TypeId} {p v : Value} (hr : (Instr.loadAt ty p).run P w = .ok v w) (x : Operand) (hg : o.guard = none) (hop : o.op = .load ty x) (hx : a.eval x = p) {d : Option Tmp} (hd : o.dst = d) (hK : K (a.put d v) w) :
    if Region.wanted o (yielded ops a.tmps) = true then Oper.wp P o a w K Q else E := by
  have hw : Region.wanted o (yielded ops a.tmps) = true := by simp [Region.wanted, hg]
  rw [if_pos hw]
  subst hd
  unfold Oper.wp execOp
  simp only [hop, hx, Sem.run_bind, Sem.run_pure, hr, Result.andThen_ok]
  exact hK
theorem step_build_run {S : TypeId} {u v : Value} (hr : (Instr.buildSlice S 1 #[(0, u)]).run P w = .ok v w') (x : Operand) (hg : o.guard = none) (hop : o.op = .buildSlice S 1 #[(0, x)]) (hx : a.eval x = u) {d : Option Tmp} (hd : o.dst = d) (hK : K (a.put d v) w') :
    if Region.wanted o (yielded ops a.tmps) = true then Oper.wp P o a w K Q else E := by
  have hw : Region.wanted o (yielded ops a.tmps) = true := by simp [Region.wanted, hg]
  rw [if_pos hw]
  subst hd
  unfold Oper.wp
  simp [execOp, hop, hx, hr, Result.andThen]
  exact hK
theorem step_append_run {t ty : TypeId} {v xv v' : Value}
    (hr : (Builtin.append_ #[t, t] ty #[v, xv]).run P w = .ok v' w') (s x : Operand) (hg : o.guard = none) (hop : o.op = Op.call { callee := Callee.builtin Builtin.append, args := #[s, x], argTypes := #[t, t] })
    (hty : o.type = ty) (hs : a.eval s = v) (hx : a.eval x = xv) {d : Option Tmp} (hd : o.dst = d) (hK : K (a.put d v') w') : if Region.wanted o (yielded ops a.tmps) = true then Oper.wp P o a w K Q else E := by
  have hw : Region.wanted o (yielded ops a.tmps) = true := by simp [Region.wanted, hg]
  rw [if_pos hw]
  subst hd
  subst hty
  unfold Oper.wp
  simp [execOp, hop, resolve, invoke, builtin, hs, hx, hr, Result.andThen]
  exact hK
theorem step_lookup_run {t : TypeId} {mv kv v : Value} (hr : (Instr.lookup t mv kv false).run P w = .ok v w) (m x : Operand) (hg : o.guard = none) (hop : o.op = .lookup t m x false) (hm : a.eval m = mv) (hx : a.eval x = kv) {d : Option Tmp} (hd : o.dst = d) (hK : K (a.put d v) w) :
    if Region.wanted o (yielded ops a.tmps) = true then Oper.wp P o a w K Q else E := by
  have hw : Region.wanted o (yielded ops a.tmps) = true := by simp [Region.wanted, hg]
  rw [if_pos hw]
  subst hd
  unfold Oper.wp
  simp [execOp, hop, hm, hx, hr, Result.andThen]
  exact hK
theorem step_convert_run {t t' : TypeId} {u v : Value} (hr : (convert t t' u).run P w = .ok v w') (x : Operand) (hg : o.guard = none) (hop : o.op = .convert t t' x) (hx : a.eval x = u) {d : Option Tmp} (hd : o.dst = d) (hK : K (a.put d v) w') :
    if Region.wanted o (yielded ops a.tmps) = true then Oper.wp P o a w K Q else E := by
  have hw : Region.wanted o (yielded ops a.tmps) = true := by simp [Region.wanted, hg]
  rw [if_pos hw]
  subst hd
  unfold Oper.wp
  simp [execOp, hop, hx, hr, Result.andThen]
  exact hK
theorem step_array_run {t : TypeId} {u v : Value} (hr : (Instr.arrayAt t u).run P w = .ok v w) (x : Operand) (hg : o.guard = none) (hop : o.op = .sliceToArrayPointer t x) (hx : a.eval x = u) {d : Option Tmp} (hd : o.dst = d) (hK : K (a.put d v) w) :
    if Region.wanted o (yielded ops a.tmps) = true then Oper.wp P o a w K Q else E := by
  have hw : Region.wanted o (yielded ops a.tmps) = true := by simp [Region.wanted, hg]
  rw [if_pos hw]
  subst hd
  unfold Oper.wp
  simp [execOp, hop, hx, hr, Result.andThen]
  exact hK
theorem step_update_run {t : TypeId} {mv kv v : Value} (hr : (Instr.mapUpdate t mv kv v).run P w = .ok () w') (m x y : Operand) (hg : o.guard = none) (hop : o.op = .mapUpdate t m x y) (hm : a.eval m = mv) (hx : a.eval x = kv) (hy : a.eval y = v) {d : Option Tmp} (hd : o.dst = d) (hK : K (a.put d undef) w') :
    if Region.wanted o (yielded ops a.tmps) = true then Oper.wp P o a w K Q else E := by
  have hw : Region.wanted o (yielded ops a.tmps) = true := by simp [Region.wanted, hg]
  rw [if_pos hw]
  subst hd
  unfold Oper.wp
  simp [execOp, hop, hm, hx, hy, hr, Result.andThen]
  exact hK
theorem wpList_lookup_run {rest : List Oper} {t : TypeId} {mv kv v : Value} {c : Bool} (hr : (Instr.lookup t mv kv c).run P w = .ok v w) (hg : o.guard = none) (m x : Operand) (hop : o.op = .lookup t m x c) (hm : a.eval m = mv) (hx : a.eval x = kv) (h : wpList P ops Q rest (a.put o.dst v) w) : wpList P ops Q (o :: rest) a w := by
  refine wpList_plain hg fun K' hK' => ?_
  unfold Oper.wp execOp
  simp only [hop, hm, hx, Sem.run_bind, Sem.run_pure, hr, Result.andThen_ok]
  exact hK' _ _ h
end
end Go.Proofs.Ytlbjfigdocbffaa

