/- member: a sector that lasts is set. -/
import Derived.Test.YtofhmdbilhdblaaMemPend
namespace Go.Proofs.Ytofhmdbilhdblaa
open Go.RowKit
set_option linter.unusedVariables false
set_option linter.unusedSimpArgs false

theorem setCells_heap (g : Nat) (T : TypeId) : ∀ (vs : List Value) (o : Nat) (w : World) (cur : Array Value), w.heap[g]? = some (.cells cur T (0, 0)) →
    ∃ cur', (w.setCells g o vs).heap[g]? = some (.cells cur' T (0, 0)) ∧ cur'.size = cur.size ∧ ∀ j, cur'[j]? = if o ≤ j ∧ j < o + vs.length ∧ j < cur.size then vs[j - o]? else cur[j]?
  | [], o, w, cur, h => ⟨cur, h, rfl, fun j => by rw [if_neg (by show ¬ (o ≤ j ∧ j < o + 0 ∧ j < cur.size); omega)]⟩
  | v :: r, o, w, cur, h => by
    have h1 : (w.setCell ⟨g, o, none⟩ v).heap[g]? = some (.cells (cur.setIfInBounds o v) T (0, 0)) := by simp [World.setCell, Array.getElem?_modify, h]
    obtain ⟨cur', a, b, c⟩ := setCells_heap g T r (o + 1) _ _ h1
    refine ⟨cur', a, by simpa using b, fun j => ?_⟩
    rw [c j]
    simp only [Array.size_setIfInBounds, List.length_cons]
    by_cases e : o + 1 ≤ j ∧ j < o + 1 + r.length ∧ j < cur.size
    · rw [if_pos e, if_pos (by omega), show j - o = (j - (o + 1)) + 1 by omega, List.getElem?_cons_succ]
    · rw [if_neg e, Array.getElem?_setIfInBounds]
      by_cases e2 : o = j
      · subst e2
        by_cases h2 : o < cur.size
        · rw [if_pos rfl, if_pos h2, if_pos (by omega)]; simp
        · rw [if_pos rfl, if_neg h2, if_neg (by omega), Array.getElem?_eq_none (by omega)]
      · rw [if_neg e2, if_neg (by omega)]
theorem setCells_step (g : Nat) : ∀ (vs : List Value) (o : Nat) (w : World), (w.setCells g o vs).os = w.os ∧ (w.setCells g o vs).tape = w.tape ∧ (w.setCells g o vs).output = w.output ∧ (w.setCells g o vs).heap.size = w.heap.size ∧ ∀ k, k ≠ g → (w.setCells g o vs).heap[k]? = w.heap[k]?
  | [], o, w => ⟨rfl, rfl, rfl, rfl, fun _ _ => rfl⟩
  | v :: r, o, w => by
    obtain ⟨a, b, c, d, e⟩ := setCells_step g r (o + 1) (w.setCell ⟨g, o, none⟩ v)
    refine ⟨a.trans rfl, b.trans rfl, c.trans rfl, d.trans (by simp), fun k hk => (e k hk).trans (Below.heap_setCell _ _ _ _ hk)⟩
/-- One whole element is set. -/
theorem OwnE.setA {α : Type} {E : Enc α} {w : World} {B : Nat} {T : TypeId} {g n cap : Nat} {l : List α} (h : OwnE E w B T (.slice (some ⟨g, 0, none⟩) n cap) l) (i : Nat) (hi : i < l.length) (a : α) :
    OwnE E (w.setCells g (i * E.k) (E.f a)) B T (.slice (some ⟨g, 0, none⟩) n cap) (l.set i a) := by
  obtain ⟨rfl, hB, cur, hg, h1, h2, h3, h4⟩ := h.row
  obtain ⟨cur', k1, k2, k3⟩ := setCells_heap g T (E.f a) (i * E.k) w cur hg
  have := OwnE.ofRow (E := E) (l := l.set i a) hB k1 (by rw [List.length_set]; exact h1) h2 (k2.trans h3) ?_
  · rw [List.length_set] at this; exact this
  · apply List.ext_getElem?
    intro j
    rw [List.length_set]
    by_cases hj : j < l.length * E.k
    · have hq : j / E.k < l.length := Nat.div_lt_of_lt_mul (by rw [Nat.mul_comm]; exact hj)
      have hr : j % E.k < E.k := Nat.mod_lt _ E.pos
      have hjj : j = j / E.k * E.k + j % E.k := by rw [Nat.mul_comm]; exact (Nat.div_add_mod j E.k).symm
      have hcs : l.length * E.k ≤ cur.size := by rw [h3]; exact Nat.mul_le_mul_right _ h1
      have e1 := E.all_get (l.set i a) (j / E.k) (by rw [List.length_set]; exact hq) (j % E.k) hr
      have e2 := E.all_get l (j / E.k) hq (j % E.k) hr
      rw [← hjj] at e1 e2
      rw [e1, List.getElem?_take_of_lt hj, Array.getElem?_toList, k3 j, E.len]
      have hold : cur[j]? = (E.f l[j / E.k])[j % E.k]? := by
        rw [← e2, ← h4, List.getElem?_take_of_lt hj, Array.getElem?_toList]
      by_cases e : i = j / E.k
      · have hlo : i * E.k ≤ j := by rw [e]; omega
        have hhi : j < i * E.k + E.k := by rw [e]; omega
        rw [if_pos ⟨hlo, hhi, by omega⟩, List.getElem_set, if_pos e]
        congr 1
        have : i * E.k = j / E.k * E.k := by rw [e]
        omega
      · rw [List.getElem_set, if_neg e, if_neg ?_]
        · exact hold
        · rintro ⟨x1, x2, _⟩
          apply e
          have hle : i ≤ j / E.k := (Nat.le_div_iff_mul_le E.pos).2 x1
          have hlt : j / E.k < i + 1 := Nat.div_lt_of_lt_mul (by rw [Nat.mul_comm, Nat.succ_mul]; exact x2)
          omega
    · rw [List.getElem?_eq_none (by rw [List.length_take]; omega), List.getElem?_eq_none (by rw [E.all_len, List.length_set]; omega)]
theorem PBox.there {w : World} {S : Nat → Prop} {m g bp cap : Nat} {fd : Bool} {L : List ByteArray} {V : Int → List ByteArray} {F : Int → Value} (h : PBox w S m g bp cap fd L V F) {i : Nat} (hi : i < L.length) : w.there g (i * 128) 128 := fun j hj =>
  ⟨by
    have e : w.cell? ⟨g, i * 128 + j, none⟩ = (EC.f L[i])[j]? := h.l.cell hi hj
    rw [e, List.getElem?_eq_getElem (by rw [EC.len]; exact hj)]; rfl, h.l.frozen _⟩
theorem PBox.setL {w : World} {S : Nat → Prop} {m g bp cap : Nat} {fd : Bool} {L : List ByteArray} {V : Int → List ByteArray} {F : Int → Value} (h : PBox w S m g bp cap fd L V F) (i : Nat) (hi : i < L.length) (s : ByteArray) (hs : s.size = 128) :
    (Instr.storeAt 80 (.pointer (some ⟨g, i * 128, none⟩)) (.agg (contL s).toArray)).run Try.prog w = .ok () (w.setCells g (i * 128) (contL s)) ∧ PBox (w.setCells g (i * 128) (contL s)) S m g bp cap fd (L.set i s) V F ∧ Stp S S w (w.setCells g (i * 128) (contL s)) := by
  obtain ⟨k1, k2, k3, k4, k5⟩ := setCells_step g (contL s) (i * 128) w
  have hst := run_storeAt_mid (P := Try.prog) w g (i * 128) 80 (contL s).toArray (by rw [cont_size]; exact h.there hi) (cont_isa s) (cont_one s)
  refine ⟨hst, ⟨?_, ?_, ?_, fun z hz => (h.r z hz).sameAt fun k hk => k5 k (h.sr z hz k hk).2.2.1, h.sm, h.sg, h.sp, h.sr, h.ap, h.mg, h.mp, h.gp, fun k hk => by rw [k4]; exact h.lt k hk, ?_, ?_, ?_, ?_, h.zv⟩, ⟨⟨k1, k2, k3, by omega, fun k hk => absurd hk (Nat.not_lt_zero _)⟩, fun k _ hn => k5 k (fun e => hn (e ▸ h.sg)), fun k hk => .inl hk⟩⟩
  · rw [k5 m h.mg, List.length_set]; exact h.b
  · have := h.l.setA i hi s
    rw [List.length_set]; exact this
  · rw [List.length_set]; exact h.p.heap (k5 bp (Ne.symm h.gp))
  · rw [List.length_set]; exact h.keys
  · rw [List.length_set]; exact h.n1
  · rw [List.length_set]; exact h.n2
  · intro t ht
    rcases List.mem_or_eq_of_mem_set ht with h1 | h1
    · exact h.zl t h1
    · rw [h1]; exact hs
set_option maxRecDepth 100000 in
/-- Nothing is pending any more. -/
theorem PBox.clear {w : World} {S : Nat → Prop} {m g bp cap : Nat} {fd : Bool} {L : List ByteArray} {V : Int → List ByteArray} {F : Int → Value} (h : PBox w S m g bp cap fd L V F) (ty : TypeId) :
    ∃ w', (Builtin.clear_ #[72] ty #[.map (some bp)]).run Try.prog w = .ok (.tuple #[]) w' ∧ PBox w' S m g bp cap fd L noV noF ∧ Stp S S w w' := by
  obtain ⟨w', h1, h2, h3⟩ := h.p.clear Try.underlying72 ty
  have hg := h3.grown
  have ho : ∀ k, k < w.heap.size → k ≠ bp → w'.heap[k]? = w.heap[k]? := fun k hk hne => hg.block k hk (by simpa using hne)
  refine ⟨w', h1, ⟨?_, ?_, h2.mono (Nat.zero_le _), fun z hz => OwnE.nil _ _ _ _, h.sm, h.sg, h.sp, fun z hz k hk => (by cases hk), fun y z _ _ _ => Apart.nil _, h.mg, h.mp, h.gp, fun k hk => Nat.lt_of_lt_of_le (h.lt k hk) hg.size, fun z _ hz => absurd rfl hz, h.n1, h.n2, h.zl, fun z s hs => (by cases hs)⟩,
    ⟨⟨hg.os, hg.tape, hg.output, hg.size, fun k hk => absurd hk (Nat.not_lt_zero _)⟩, fun k hk hn => ho k hk (fun e => hn (e ▸ h.sp)), fun k hk => .inl hk⟩⟩
  · rw [ho m (h.lt m h.sm) h.mp]; exact h.b
  · refine h.l.sameAt fun k hk => ?_
    injection hk with hk; subst hk
    exact ho _ (h.lt g h.sg) h.gp
section
variable {P : Program} {ops : Array Oper} {o : Oper} {a : Act} {w w' : World} {K : Act → World → Prop} {Q : Exit → Act → World → Prop} {E : Prop}
theorem step_store_run {ty : TypeId} {p v : Value} (hr : (Instr.storeAt ty p v).run P w = .ok () w') (x y : Operand) (hg : o.guard = none) (hop : o.op = .store ty x y) (hx : a.eval x = p) (hy : a.eval y = v) {d : Option Tmp} (hd : o.dst = d) (hK : K (a.put d undef) w') :
    if Region.wanted o (yielded ops a.tmps) = true then Oper.wp P o a w K Q else E := by
  have hw : Region.wanted o (yielded ops a.tmps) = true := by simp [Region.wanted, hg]
  rw [if_pos hw]
  subst hd
  unfold Oper.wp execOp
  simp only [hop, hx, hy, Sem.run_bind, Sem.run_pure, hr, Result.andThen_ok]
  exact hK
theorem yieldsIf_load_run {S : World → Prop} {ty : TypeId} {p v : Value} (hw : Region.wanted o (yielded ops a.tmps) = true) (x : Operand) (ho : o.op = .load ty x) (hx : a.eval x = p) (hS : ∀ w, S w → (Instr.loadAt ty p).run P w = .ok v w) : YieldsIf P ops S o v a :=
  .inl ⟨hw, fun w hw' => by
    unfold execOp
    simp only [ho, hx, Sem.run_bind, Sem.run_pure, hS w hw', Result.andThen_ok]⟩
end
end Go.Proofs.Ytofhmdbilhdblaa

