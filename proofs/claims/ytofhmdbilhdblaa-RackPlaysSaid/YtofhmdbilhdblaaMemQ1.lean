/- the document's member in memory. -/
import Derived.Test.YtofhmdbilhdblaaMemNew
import Derived.Test.YtofhmdbilhdblaaSl3
import Derived.Test.YtofhmdbilhdblaaSl4
namespace Go.Proofs.Ytofhmdbilhdblaa
open Go.RowKit
set_option linter.unusedVariables false
set_option linter.unusedSimpArgs false
set_option maxRecDepth 100000

/-- One cell of one element. -/
theorem Enc.all_set {α : Type} (E : Enc α) (l : List α) (i : Nat) (hi : i < l.length) (j : Nat) (hj : j < E.k) (u : Value) (a : α) (h : (E.f l[i]).set j u = E.f a) : (E.all l).set (i * E.k + j) u = E.all (l.set i a) := by
  induction l generalizing i with
  | nil => exact absurd hi (Nat.not_lt_zero _)
  | cons b l ih =>
    cases i with
    | zero =>
      rw [Nat.zero_mul, Nat.zero_add, List.set_cons_zero, E.all_cons, E.all_cons, List.set_append_left _ _ (by rw [E.len]; exact hj)]
      exact congrArg (· ++ E.all l) h
    | succ i =>
      rw [List.set_cons_succ, E.all_cons, E.all_cons, List.set_append_right _ _ (by rw [E.len, Nat.succ_mul]; omega), E.len, show (i + 1) * E.k + j - E.k = i * E.k + j by rw [Nat.succ_mul]; omega]
      exact congrArg (E.f b ++ ·) (ih i (by simpa using hi) h)
theorem OwnE.setIn {α : Type} {E : Enc α} {w : World} {B : Nat} {T : TypeId} {g n cap : Nat} {l : List α} (h : OwnE E w B T (.slice (some ⟨g, 0, none⟩) n cap) l) (i : Nat) (hi : i < l.length) (j : Nat) (hj : j < E.k) (u : Value) (a : α) (he : (E.f l[i]).set j u = E.f a) :
    OwnE E (w.setCell ⟨g, i * E.k + j, none⟩ u) B T (.slice (some ⟨g, 0, none⟩) n cap) (l.set i a) := by
  have hn : n = l.length := by rcases h.o.2 with ⟨h1, _⟩ | ⟨_, _, _, h1, _⟩ <;> simp at h1; exact h1.2.1
  subst hn
  refine ⟨?_⟩
  rw [List.length_set, ← E.all_set l i hi j hj u a he]
  exact (h.o.stored (i * E.k + j) u).1
theorem step_append_runR {P : Program} {ops : Array Oper} {o : Oper} {a : Act} {w : World} {K : Act → World → Prop} {Q : Exit → Act → World → Prop} {E : Prop} {t ty : TypeId} {v xv v' : Value} {w' : World}
    (hr : (Builtin.append_ #[t, t] ty #[v, xv]).run P w = .ok v' w') (s x : Operand) (hg : o.guard = none) (hop : o.op = Op.call { callee := Callee.builtin Builtin.append, args := #[s, x], argTypes := #[t, t] })
    (hty : o.type = ty) (hs : a.eval s = v) (hx : a.eval x = xv) (hK : K (a.put o.dst v') w') : if Region.wanted o (yielded ops a.tmps) = true then Oper.wp P o a w K Q else E := by
  have hw : Region.wanted o (yielded ops a.tmps) = true := by simp [Region.wanted, hg]
  rw [if_pos hw]
  subst hty
  unfold Oper.wp
  simp [execOp, hop, resolve, invoke, builtin, hs, hx, hr, Result.andThen]
  exact hK
def asQ : Value → Value
  | .slice a n c => .slice a n c
  | _ => .slice none 0 0
theorem asQ_one (v : Value) : (asQ v).oneCell' = true := by cases v <;> rfl
theorem asQ_own {w : World} {B : Nat} {E : TypeId} {v : Value} {xs : List Value} (h : Own w B E v xs) : asQ v = v := by
  rcases h.o.2 with ⟨rfl, _⟩ | ⟨g, cap, cur, rfl, _⟩ <;> rfl
/-- A sector of the document's member: what lasts, the slice of what is pending. -/
def sE : Enc (ByteArray × Value) := ⟨2, fun x => [.string x.1, asQ x.2], by omega, fun _ => rfl, fun x u hu => by
  simp only [List.mem_cons, List.not_mem_nil, or_false] at hu
  rcases hu with rfl | rfl
  · rfl
  · exact asQ_one _⟩
theorem sE_k : sE.k = 2 := rfl
def upq {α : Type} (f : Nat → α) (i : Nat) (v : α) : Nat → α := fun j => if j = i then v else f j
theorem upq_same {α : Type} (f : Nat → α) (i : Nat) (v : α) : upq f i v i = v := if_pos rfl
theorem upq_other {α : Type} (f : Nat → α) (i j : Nat) (v : α) (h : j ≠ i) : upq f i v j = f j := if_neg h
def qL (L : List ByteArray) (F : Nat → Value) : List (ByteArray × Value) := (List.range L.length).map fun i => (L.getD i zero128, F i)
theorem qL_len (L : List ByteArray) (F : Nat → Value) : (qL L F).length = L.length := by simp [qL]
theorem qL_get (L : List ByteArray) (F : Nat → Value) (i : Nat) (h : i < (qL L F).length) (h' : i < L.length) : (qL L F)[i] = (L[i], F i) := by
  simp [qL, List.getD_eq_getElem?_getD, List.getElem?_eq_getElem h']
theorem qL_set (L : List ByteArray) (F : Nat → Value) (i : Nat) (h : i < L.length) (t : ByteArray) (v : Value) : (qL L F).set i (t, v) = qL (L.set i t) (upq F i v) := by
  unfold qL
  apply List.ext_getElem?
  intro j
  rw [List.length_set, List.getElem?_set]
  by_cases e : i = j
  · subst e
    simp [h, upq]
  · rw [if_neg e]
    by_cases hj : j < L.length
    · simp [hj, upq, Ne.symm e, List.getElem?_set, e]
    · simp [hj]
theorem upq_self {α : Type} (F : Nat → α) (i : Nat) : upq F i (F i) = F := by
  funext j; unfold upq; by_cases e : j = i
  · subst e; rw [if_pos rfl]
  · rw [if_neg e]
/-- The document's member in memory: its box m, its sectors in block q. -/
structure QBox (w : World) (S : Nat → Prop) (m q cap : Nat) (fd : Bool) (L : List ByteArray) (V : Int → List ByteArray) (F : Nat → Value) : Prop where
  b : w.heap[m]? = some (.cells #[.slice (some ⟨q, 0, none⟩) L.length cap, .bool fd] 78 (0, 0))
  l : OwnE sE w 0 83 (.slice (some ⟨q, 0, none⟩) L.length cap) (qL L F)
  r : ∀ i : Nat, i < L.length → Own w 0 9 (F i) ((V (i : Int)).map .string)
  sm : S m
  sq : S q
  sr : ∀ i : Nat, i < L.length → ∀ k, (F i).ownBlock = some k → S k ∧ k ≠ m ∧ k ≠ q
  mq : m ≠ q
  lt : ∀ k, S k → k < w.heap.size
  keys : ∀ z, V z ≠ [] → 0 ≤ z ∧ z < (L.length : Int)
  n1 : 1 ≤ L.length
  n2 : L.length ≤ 256
  zl : ∀ s ∈ L, s.size = 128
  zv : ∀ z, ∀ s ∈ V z, s.size = 128
theorem Own.at_ {w w' : World} {B : Nat} {E : TypeId} {v : Value} {xs : List Value} (h : Own w B E v xs) (hk : ∀ k, v.ownBlock = some k → w'.heap[k]? = w.heap[k]?) : Own w' B E v xs := by
  refine ⟨h.o.1, ?_⟩
  rcases h.o.2 with h1 | ⟨g, cap, cur, h1, h2, h3, h4⟩
  · exact .inl h1
  · exact .inr ⟨g, cap, cur, h1, h2, by rw [hk g (by rw [h1]; rfl)]; exact h3, h4⟩
section
variable {w w' : World} {S : Nat → Prop} {m q cap : Nat} {fd : Bool} {L : List ByteArray} {V : Int → List ByteArray} {F : Nat → Value}
theorem QBox.heap (h : QBox w S m q cap fd L V F) (e : ∀ k, S k → w'.heap[k]? = w.heap[k]?) (hs : w.heap.size ≤ w'.heap.size) : QBox w' S m q cap fd L V F :=
  ⟨(e m h.sm).trans h.b, h.l.sameAt fun k hk => by injection hk with hk; subst hk; exact e _ h.sq, fun i hi => (h.r i hi).at_ fun k hk => e k (h.sr i hi k hk).1, h.sm, h.sq, h.sr, h.mq,
    fun k hk => Nat.lt_of_lt_of_le (h.lt k hk) hs, h.keys, h.n1, h.n2, h.zl, h.zv⟩
theorem QBox.below (h : QBox w S m q cap fd L V F) (hb : Below w.heap.size w w') : QBox w' S m q cap fd L V F := h.heap (fun k hk => hb.block k (h.lt k hk)) hb.size
theorem QBox.c0 (h : QBox w S m q cap fd L V F) : w.cell? ⟨m, 0, none⟩ = some (.slice (some ⟨q, 0, none⟩) L.length cap) := by simp [World.cell?, h.b]
theorem QBox.c1 (h : QBox w S m q cap fd L V F) : w.cell? ⟨m, 1, none⟩ = some (.bool fd) := by simp [World.cell?, h.b]
theorem QBox.f (h : QBox w S m q cap fd L V F) (o : Nat) : w.frozen? ⟨m, o, none⟩ = false := by simp [World.frozen?, h.b]
theorem QBox.s0 (h : QBox w S m q cap fd L V F) {i : Nat} (hi : i < L.length) : w.cell? ⟨q, i * 2, none⟩ = some (.string L[i]) := by
  have := h.l.cell (i := i) (by rw [qL_len]; exact hi) (j := 0) (by show 0 < 2; omega)
  rw [qL_get _ _ _ _ hi] at this
  exact this
theorem QBox.s1 (h : QBox w S m q cap fd L V F) {i : Nat} (hi : i < L.length) : w.cell? ⟨q, i * 2 + 1, none⟩ = some (F i) := by
  have := h.l.cell (i := i) (by rw [qL_len]; exact hi) (j := 1) (by show 1 < 2; omega)
  rw [qL_get _ _ _ _ hi] at this
  rw [show sE.k = 2 from rfl] at this
  rw [this]
  show some (asQ (F i)) = _
  rw [asQ_own (h.r i hi)]
theorem QBox.sf (h : QBox w S m q cap fd L V F) (o : Nat) : w.frozen? ⟨q, o, none⟩ = false := h.l.frozen o
theorem QBox.len (h : QBox w S m q cap fd L V F) (W : World) : (Builtin.len_ #[75] 3 #[.slice (some ⟨q, 0, none⟩) L.length cap]).run Try.prog W = .ok (.int .i64 (L.length : Int)) W := by
  have := h.l.reads.len_run (P := Try.prog) Try.underlying75 3 W
  rw [qL_len] at this; exact this
theorem QBox.lenV (h : QBox w S m q cap fd L V F) {i : Nat} (hi : i < L.length) (W : World) : (Builtin.len_ #[47] 3 #[F i]).run Try.prog W = .ok (.int .i64 ((V (i : Int)).length : Int)) W := by
  have := (h.r i hi).reads.len_run (P := Try.prog) Try.underlying47 3 W
  rw [List.length_map] at this; exact this
theorem QBox.stp (h : QBox w S m q cap fd L V F) : Stp S S w w := Stp.refl _ _
end
def hasQ (L : List ByteArray) (n : Int) : Bool := decide (0 ≤ n) && decide (n < (L.length : Int))
theorem qsize_any {w : World} {S : Nat → Prop} {m q cap : Nat} {fd : Bool} {L : List ByteArray} {V : Int → List ByteArray} {F : Nat → Value} (h : QBox w S m q cap fd L V F) :
    Calls Try.prog 28 #[.pointer (some ⟨m, 0, none⟩)] w fun e w' => e = .returned (.int .i64 (L.length : Int)) ∧ w = w' := by
  have c0 := h.c0
  have hl := h.len
  clear h
  go_enter Try.func28, Try.ntmps28
  go_wp2
  go_ret
  exact ⟨rfl, rfl⟩
theorem qalive_any {w : World} {S : Nat → Prop} {m q cap : Nat} {fd : Bool} {L : List ByteArray} {V : Int → List ByteArray} {F : Nat → Value} (h : QBox w S m q cap fd L V F) :
    Calls Try.prog 26 #[.pointer (some ⟨m, 0, none⟩)] w fun e w' => e = .returned (.bool (!fd)) ∧ w = w' := by
  have c1 := h.c1
  clear h
  go_enter Try.func26, Try.ntmps26
  go_wp2
  go_ret
  exact ⟨rfl, rfl⟩
theorem qvers_any {w : World} {S : Nat → Prop} {m q cap : Nat} {fd : Bool} {L : List ByteArray} {V : Int → List ByteArray} {F : Nat → Value} (h : QBox w S m q cap fd L V F) (n : Int) :
    Calls Try.prog 30 #[.pointer (some ⟨m, 0, none⟩), .int .i64 n] w fun e w' => e = .returned (.int .i64 ((V n).length : Int)) ∧ w = w' := by
  have c0 := h.c0
  have hl := h.len
  by_cases h1 : 0 ≤ n ∧ n < (L.length : Int)
  · obtain ⟨h1, h2⟩ := h1
    obtain ⟨i, rfl⟩ := Int.eq_ofNat_of_zero_le h1
    have hi : i < L.length := by omega
    have s1 := h.s1 hi
    have lv := h.lenV hi
    have hn2 := h.n2
    have t1 : ¬ ((i : Int) < 0) := by omega
    have t2 : ¬ ((L.length : Int) ≤ (i : Int)) := by omega
    have d1 : decide ((i : Int) < 0) = false := decide_eq_false t1
    have d2 : decide ((L.length : Int) ≤ (i : Int)) = false := decide_eq_false t2
    clear h h1
    go_enter Try.func30, Try.ntmps30
    go_wp2
    go_ret
    exact ⟨rfl, rfl⟩
  · have hv : V n = [] := by
      apply Classical.byContradiction
      intro hne
      exact h1 (h.keys n hne)
    rw [hv]
    by_cases h0 : n < 0
    · have d1 : decide (n < 0) = true := decide_eq_true h0
      clear h h1 h0
      go_enter Try.func30, Try.ntmps30
      go_wp2
      go_ret
      exact ⟨rfl, rfl⟩
    · have d1 : decide (n < 0) = false := decide_eq_false h0
      have d2 : decide ((L.length : Int) ≤ n) = true := decide_eq_true (by omega)
      clear h h1 h0
      go_enter Try.func30, Try.ntmps30
      go_wp2
      go_ret
      exact ⟨rfl, rfl⟩
theorem qread_dead {w : World} {S : Nat → Prop} {m q cap : Nat} {L : List ByteArray} {V : Int → List ByteArray} {F : Nat → Value} (h : QBox w S m q cap true L V F) (n : Int) :
    Calls Try.prog 24 #[.pointer (some ⟨m, 0, none⟩), .int .i64 n] w fun e w' => e = .returned (.tuple #[.string ⟨#[]⟩, .int .i64 80]) ∧ w = w' := by
  have c1 := h.c1
  clear h
  go_enter Try.func24, Try.ntmps24
  go_wp2
  go_ret2
  exact ⟨rfl, rfl⟩
theorem qread_range {w : World} {S : Nat → Prop} {m q cap : Nat} {L : List ByteArray} {V : Int → List ByteArray} {F : Nat → Value} (h : QBox w S m q cap false L V F) (n : Int) (hn : hasQ L n = false) :
    Calls Try.prog 24 #[.pointer (some ⟨m, 0, none⟩), .int .i64 n] w fun e w' => e = .returned (.tuple #[.string ⟨#[]⟩, .int .i64 81]) ∧ w = w' := by
  have c0 := h.c0
  have c1 := h.c1
  have hl := h.len
  unfold hasQ at hn
  by_cases h0 : n < 0
  · have d1 : decide (n < 0) = true := decide_eq_true h0
    clear h hn h0
    go_enter Try.func24, Try.ntmps24
    go_wp2
    go_ret2
    exact ⟨rfl, rfl⟩
  · rw [decide_eq_true (by omega : 0 ≤ n), Bool.true_and, decide_eq_false_iff_not] at hn
    have d1 : decide (n < 0) = false := decide_eq_false h0
    have d2 : decide ((L.length : Int) ≤ n) = true := decide_eq_true (by omega)
    clear h hn h0
    go_enter Try.func24, Try.ntmps24
    go_wp2
    go_ret2
    exact ⟨rfl, rfl⟩
set_option maxHeartbeats 1000000 in
theorem qread_any {w : World} {S : Nat → Prop} {m q cap : Nat} {L : List ByteArray} {V : Int → List ByteArray} {F : Nat → Value} (h : QBox w S m q cap false L V F) (i : Nat) (hi : i < L.length) (hv : (V i).length ≤ 1000000000000) :
    Calls Try.prog 24 #[.pointer (some ⟨m, 0, none⟩), .int .i64 (i : Int)] w fun e w' => e = .returned (.tuple #[.string (lastOf (V i) L[i]), .int .i64 0]) ∧ w = w' := by
  have c0 := h.c0
  have c1 := h.c1
  have hl := h.len
  have s0 := h.s0 hi
  have s1 := h.s1 hi
  have lv := h.lenV hi
  have hn2 := h.n2
  have d1 : decide ((i : Int) < 0) = false := decide_eq_false (by omega)
  have d2 : decide ((L.length : Int) ≤ (i : Int)) = false := decide_eq_false (by omega)
  obtain ⟨vs, hvs⟩ : ∃ vs, V (i : Int) = vs := ⟨_, rfl⟩
  have ho := h.r i hi
  rw [hvs] at lv ho hv ⊢
  obtain ⟨F0, hF⟩ : ∃ F0, F i = F0 := ⟨_, rfl⟩
  rw [hF] at ho lv s1
  obtain ⟨Li, hLi⟩ : ∃ x, L[i] = x := ⟨_, rfl⟩
  rw [hLi] at s0 ⊢
  rcases Nat.eq_zero_or_pos vs.length with h0 | h0
  · have e0 : vs = [] := List.eq_nil_of_length_eq_zero h0
    subst e0
    have t1 : decide (0 < ((([] : List ByteArray).length : Nat) : Int)) = false := rfl
    have e1 : lastOf [] Li = Li := rfl
    rw [e1]
    clear h h0 ho hLi hF hvs
    go_enter Try.func24, Try.ntmps24
    go_wp2
    go_ret2
    exact ⟨rfl, rfl⟩
  · obtain ⟨g, c, rfl, _, hg⟩ := ho.form (by rw [List.length_map]; exact h0)
    rw [List.length_map] at ho lv s1
    obtain ⟨k, hk⟩ : ∃ k, vs.length = k + 1 := ⟨vs.length - 1, by omega⟩
    have cl := ho.cell (i := k) (by rw [List.length_map]; omega)
    have el : (vs.map Value.string).getD k .nilFunc = .string (lastOf vs Li) := by
      unfold lastOf
      rw [List.getD_eq_getElem?_getD, List.getElem?_map, List.getElem?_eq_getElem (by omega)]
      simp [List.getLastD_eq_getLast?, List.getLast?_eq_getElem?, hk]
    rw [el] at cl
    rw [hk] at lv s1
    have wk : IntKind.i64.wrap (((k + 1 : Nat) : Int) - 1) = (k : Int) := by rw [IntKind.wrap_i64]; omega
    have t1 : decide (0 < ((k + 1 : Nat) : Int)) = true := decide_eq_true (by omega)
    clear h ho h0 hLi hvs el hg
    generalize lastOf vs Li = tt at *
    go_enter Try.func24, Try.ntmps24
    go_wp2
    go_ret2
    exact ⟨rfl, rfl⟩
theorem qwrite_dead {w : World} {S : Nat → Prop} {m q cap : Nat} {L : List ByteArray} {V : Int → List ByteArray} {F : Nat → Value} (h : QBox w S m q cap true L V F) (n : Int) (s : ByteArray) :
    Calls Try.prog 12 #[.pointer (some ⟨m, 0, none⟩), .int .i64 n, .string s] w fun e w' => e = .returned (.int .i64 80) ∧ w = w' := by
  have c1 := h.c1
  clear h
  go_enter Try.func12, Try.ntmps12
  go_wp2
  go_ret
  exact ⟨rfl, rfl⟩
set_option maxHeartbeats 1000000 in
theorem qwrite_range {w : World} {S : Nat → Prop} {m q cap : Nat} {L : List ByteArray} {V : Int → List ByteArray} {F : Nat → Value} (h : QBox w S m q cap false L V F) (n : Int) (s : ByteArray) (hn : hasQ L n = false ∨ s.size ≠ 128) (hsz : s.size ≤ 140737488355328) :
    Calls Try.prog 12 #[.pointer (some ⟨m, 0, none⟩), .int .i64 n, .string s] w fun e w' => e = .returned (.int .i64 81) ∧ w = w' := by
  have c0 := h.c0
  have c1 := h.c1
  have hl := h.len
  by_cases h1 : hasQ L n = false
  · unfold hasQ at h1
    by_cases h0 : n < 0
    · have d1 : decide (n < 0) = true := decide_eq_true h0
      clear h hn h0 h1
      go_enter Try.func12, Try.ntmps12
      go_wp2
      go_ret
      exact ⟨rfl, rfl⟩
    · rw [decide_eq_true (by omega : 0 ≤ n), Bool.true_and, decide_eq_false_iff_not] at h1
      have d1 : decide (n < 0) = false := decide_eq_false h0
      have d2 : decide ((L.length : Int) ≤ n) = true := decide_eq_true (by omega)
      clear h hn h0 h1
      go_enter Try.func12, Try.ntmps12
      go_wp2
      go_ret
      exact ⟨rfl, rfl⟩
  · have hs : s.size ≠ 128 := hn.resolve_left h1
    have h2 : hasQ L n = true := by cases e : hasQ L n; exact absurd e h1; rfl
    unfold hasQ at h2
    rw [Bool.and_eq_true, decide_eq_true_iff, decide_eq_true_iff] at h2
    have d1 : decide (n < 0) = false := decide_eq_false (by omega)
    have d2 : decide ((L.length : Int) ≤ n) = false := decide_eq_false (by omega)
    have d3 : ((s.size : Int) != 128) = true := by rw [bne_iff_ne]; omega
    clear h hn h1 h2 hs
    go_enter Try.func12, Try.ntmps12
    go_wp2
    go_ret
    exact ⟨rfl, rfl⟩
end Go.Proofs.Ytofhmdbilhdblaa
