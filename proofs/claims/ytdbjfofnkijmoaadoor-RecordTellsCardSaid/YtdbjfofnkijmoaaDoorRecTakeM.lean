/- record: what a head and a body are taken as; plain. -/
import Derived.Test.YtdbjfofnkijmoaaDoorRecDRead
import Derived.Test.YtdbjfofnkijmoaaDoorShelf
namespace Go.Proofs.YtdbjfofnkijmoaaDoor
section
open Go.RowKit
set_option linter.unusedVariables false
set_option linter.unusedSimpArgs false

open Rc
def GivesH (w : World) (K M B : Int) (h : ByteArray) (e : Ending) (w' : World) : Prop :=
  e = .returned (.tuple #[.int .i64 (if headB K M B h then hdQ h else 0), .int .i64 (if headB K M B h then ((hdS h).length : Int) * K else 0), .int .i64 (if headB K M B h then 0 else 110)]) ∧ Below w.heap.size w w'
theorem headB_K {K M B : Int} {h : ByteArray} (ht : headB K M B h = true) : (1 ≤ K ∧ K ≤ 4) ∧ 1 ≤ (hdS h).length ∧ (hdS h).length ≤ 16 := by
  unfold headB ordB at ht
  simp only [Bool.and_eq_true, decide_eq_true_eq] at ht
  have hK := gR_true ht.2.2.1
  exact ⟨⟨hK.1, hK.2.1⟩, ht.2.2.2.2.1⟩
set_option maxRecDepth 100000 in
set_option maxHeartbeats 4000000 in
theorem head11_any (K M B : Int) (h : ByteArray) (w : World) (hs : h.size ≤ 140737488355328) :
    Calls Tryd.prog 12 #[.agg #[.int .i64 K, .int .i64 M, .int .i64 B], .string h] w (GivesH w K M B h) := by
  obtain ⟨p, hp⟩ : ∃ p, w.heap.size = p := ⟨_, rfl⟩
  have hfin : Hid (∀ w', Below p w w' → GivesH w K M B h (.returned (.tuple #[.int .i64 (if headB K M B h then hdQ h else 0), .int .i64 (if headB K M B h then ((hdS h).length : Int) * K else 0), .int .i64 (if headB K M B h then 0 else 110)])) w') := Lib.hid fun w' hb => ⟨rfl, by rw [hp]; exact hb⟩
  have g0 := GBx.made w K M B 23
  have b0 : Below p w (w.alloc (.cells #[.int .i64 K, .int .i64 M, .int .i64 B] 23)) := (Below.refl _ _).alloc (by omega) _
  rw [hp] at g0
  have e0 := g0.c0
  have e1 := g0.c1
  have e2 := g0.c2
  go_enter Tryd.func12, Tryd.ntmps12
  go_wp2_with (fail)
  clear e0 e1 e2
  replace hp := Lib.hid hp
  refine (parse_any K M B h _ hs).mono ?_
  rintro e w1 ⟨v, rfl, f1, b1⟩
  have g1 := g0.below b1 g0.lt
  have b2 := b0.trans (b1.mono (by have := g0.lt; omega))
  clear g0 b0 b1
  cases ht : headB K M B h with
  | false =>
    rw [ht] at hfin f1
    simp only [Bool.false_eq_true, if_false] at hfin f1 ⊢
    obtain ⟨va, vc, rfl⟩ := f1.o.isSlice
    go_wp2_with (fail)
    refine bodyPost_ret (results_tmp3 rfl _ _ _) rfl ?_
    exact hfin.out _ (b2.trans ((Below.refl _ _).alloc (by have := g1.lt; omega) _))
  | true =>
    rw [ht] at hfin f1
    have hk := headB_K ht
    simp only [if_true] at hfin f1 ⊢
    obtain ⟨va, vc, rfl⟩ := f1.o.isSlice
    have q1 : 1 ≤ ((hdS h).length : Int) := by omega
    have q2 : ((hdS h).length : Int) ≤ 16 := by omega
    have q0 : 1 ≤ ((hdS h).length : Int) * K := by
      have := Int.mul_le_mul q1 hk.1.1 (by omega) (by omega); omega
    have q3 : ((hdS h).length : Int) * K ≤ 64 := by
      have := Int.mul_le_mul q2 hk.1.2 (by omega) (by omega); omega
    clear hk ht f1
    generalize (hdS h).length = n at *
    have X := RBx.made w1 (hdQ h) (.slice va n vc) 26
    have bb : Below w1.heap.size w1 (w1.alloc (.cells #[.int .i64 (hdQ h), .slice va n vc] 26)) := (Below.refl _ _).alloc (Nat.le_refl _) _
    have g2 := g1.below bb g1.lt
    have b3 := b2.trans (bb.mono (by have := g1.lt; omega))
    clear g1 b2 bb
    have e0 := g2.c0
    have e3 := X.c0
    have e4 := X.c1
    have w1' : IntKind.i64.wrap ((n : Int) * K) = (n : Int) * K := IntWalk.i64_in _ (by omega)
    go_wp2_with (fail)
    go_quiet (fail)
    go_wp2_with (fail)
    refine bodyPost_ret (results_tmp3 rfl _ _ _) rfl ?_
    exact hfin.out _ (b3.trans ⟨rfl, rfl, rfl, Nat.le_refl _, fun _ _ => rfl⟩)
set_option maxRecDepth 100000 in
set_option maxHeartbeats 4000000 in
theorem rhead11_any (K M B : Int) (h : ByteArray) (w : World) (hs : h.size ≤ 140737488355328) :
    Calls Tryd.prog 13 #[.agg #[.int .i64 K, .int .i64 M, .int .i64 B], .string h] w (GivesH w K M B h) := by
  obtain ⟨p, hp⟩ : ∃ p, w.heap.size = p := ⟨_, rfl⟩
  have hfin : Hid (∀ w', Below p w w' → GivesH w K M B h (.returned (.tuple #[.int .i64 (if headB K M B h then hdQ h else 0), .int .i64 (if headB K M B h then ((hdS h).length : Int) * K else 0), .int .i64 (if headB K M B h then 0 else 110)])) w') := Lib.hid fun w' hb => ⟨rfl, by rw [hp]; exact hb⟩
  have g0 := GBx.made w K M B 23
  have b0 : Below p w (w.alloc (.cells #[.int .i64 K, .int .i64 M, .int .i64 B] 23)) := (Below.refl _ _).alloc (by omega) _
  rw [hp] at g0
  have e0 := g0.c0
  have e1 := g0.c1
  have e2 := g0.c2
  go_enter Tryd.func13, Tryd.ntmps13
  go_wp2_with (fail)
  clear e0 e1 e2
  replace hp := Lib.hid hp
  refine (rread_any K M B h _ hs).mono ?_
  rintro e w1 ⟨q, v, c, l, rfl, gr⟩
  have b1 := gr.b
  have f1 := gr.f
  have g1 := g0.below b1 g0.lt
  have b2 := b0.trans (b1.mono (by have := g0.lt; omega))
  clear g0 b0 b1
  cases ht : headB K M B h with
  | false =>
    rw [ht] at hfin
    simp only [Bool.false_eq_true, if_false] at hfin ⊢
    obtain ⟨va, vc, rfl⟩ := f1.o.isSlice
    go_wp2_with (fail)
    refine bodyPost_ret (results_tmp3 rfl _ _ _) rfl ?_
    exact hfin.out _ (b2.trans ((Below.refl _ _).alloc (by have := g1.lt; omega) _))
  | true =>
    rw [ht] at hfin
    have hk := headB_K ht
    have hn : l.length = (hdS h).length := by have := congrArg List.length (gr.t ht).2.2.1; simpa using this
    obtain rfl := (gr.t ht).1
    simp only [if_true] at hfin ⊢
    obtain ⟨va, vc, rfl⟩ := f1.o.isSlice
    have q1 : 1 ≤ ((hdS h).length : Int) := by omega
    have q2 : ((hdS h).length : Int) ≤ 16 := by omega
    have q0 : 1 ≤ ((hdS h).length : Int) * K := by
      have := Int.mul_le_mul q1 hk.1.1 (by omega) (by omega); omega
    have q3 : ((hdS h).length : Int) * K ≤ 64 := by
      have := Int.mul_le_mul q2 hk.1.2 (by omega) (by omega); omega
    rw [hn]
    clear hk ht f1 hn gr
    generalize (hdS h).length = n at *
    have X := RBx.made w1 (hdQ h) (.slice va n vc) 26
    have bb : Below w1.heap.size w1 (w1.alloc (.cells #[.int .i64 (hdQ h), .slice va n vc] 26)) := (Below.refl _ _).alloc (Nat.le_refl _) _
    have g2 := g1.below bb g1.lt
    have b3 := b2.trans (bb.mono (by have := g1.lt; omega))
    clear g1 b2 bb
    have e0 := g2.c0
    have e3 := X.c0
    have e4 := X.c1
    have w1' : IntKind.i64.wrap ((n : Int) * K) = (n : Int) * K := IntWalk.i64_in _ (by omega)
    go_wp2_with (fail)
    go_quiet (fail)
    go_wp2_with (fail)
    refine bodyPost_ret (results_tmp3 rfl _ _ _) rfl ?_
    exact hfin.out _ (b3.trans ⟨rfl, rfl, rfl, Nat.le_refl _, fun _ _ => rfl⟩)
end
section
open Go.RowKit
set_option linter.unusedVariables false
set_option linter.unusedSimpArgs false

open Rc
def chunk (k : Nat) (b : List ByteArray) (i : Nat) : List ByteArray := (b.drop (i * k)).take k
theorem flat_chunks (k : Nat) : ∀ (n : Nat) (b : List ByteArray), b.length = n * k → (List.range n).flatMap (chunk k b) = b
  | 0, b, h => by
    rw [Nat.zero_mul] at h
    rw [List.eq_nil_of_length_eq_zero h]; rfl
  | n + 1, b, h => by
    rw [List.range_succ_eq_map, List.flatMap_cons, List.flatMap_map]
    have e : (fun i => chunk k b (i + 1)) = chunk k (b.drop k) := by
      funext i; unfold chunk; rw [List.drop_drop, show (i + 1) * k = k + i * k by rw [Nat.succ_mul]; omega]
    have ih := flat_chunks k n (b.drop k) (by rw [List.length_drop, h, Nat.succ_mul]; omega)
    rw [show (fun a => chunk k b a.succ) = (fun i => chunk k b (i + 1)) from rfl, e, ih]
    unfold chunk
    rw [Nat.zero_mul, List.drop_zero, List.take_append_drop]
def pr (s : St) : Int × List ByteArray := (s.n, s.d)
theorem allT_len {l : List St} {k : Nat} (h : ∀ s ∈ l, s.d.length = k) : (allT l).length = l.length * k := by
  induction l with
  | nil => simp [allT]
  | cons s l ih =>
    have e : allT (s :: l) = s.d ++ allT l := rfl
    rw [e, List.length_append, h s (List.mem_cons_self ..), ih fun t ht => h t (List.mem_cons_of_mem _ ht), List.length_cons, Nat.succ_mul]; omega
theorem allT_chunk {l : List St} {k : Nat} (h : ∀ s ∈ l, s.d.length = k) {i : Nat} (hi : i < l.length) : chunk k (allT l) i = l[i].d := by
  induction l generalizing i with
  | nil => exact absurd hi (Nat.not_lt_zero _)
  | cons s l ih =>
    have e : allT (s :: l) = s.d ++ allT l := rfl
    have hk := h s (List.mem_cons_self ..)
    unfold chunk
    cases i with
    | zero => rw [Nat.zero_mul, List.drop_zero, e, List.take_append_of_le_length (by omega), List.take_of_length_le (by omega)]; rfl
    | succ i =>
      rw [e, List.drop_append, List.drop_of_length_le (by rw [Nat.succ_mul]; omega), List.nil_append, show (i + 1) * k - s.d.length = i * k by rw [Nat.succ_mul]; omega]
      exact ih (fun t ht => h t (List.mem_cons_of_mem _ ht)) (by simpa using hi)
/-- Whether they are taken; what as. -/
def takeB (K M B : Int) (h : ByteArray) (b : List ByteArray) : Bool := headB K M B h && (decide ((b.length : Int) = ((hdS h).length : Int) * K) && (txtB b && decide (((sumT b : Nat) : Int) = hdC h)))
def takeL (K : Int) (h : ByteArray) (b : List ByteArray) : List (Int × List ByteArray) := (List.range (hdS h).length).map fun i => (((hdS h).map St.n).getD i 0, chunk K.toNat b i)
theorem take_l {K : Int} {h : ByteArray} {b : List ByteArray} {l : List St} (hn : l.map St.n = (hdS h).map St.n) (hk : ∀ s ∈ l, s.d.length = K.toNat) (ha : allT l = b) : l.map pr = takeL K h b := by
  have hl : l.length = (hdS h).length := by have := congrArg List.length hn; simpa using this
  unfold takeL
  rw [← hn, ← ha]
  apply List.ext_getElem (by simp [hl])
  intro i h1 h2
  have hi : i < l.length := by simpa using h1
  simp only [List.getElem_map, List.getElem_range]
  rw [List.getD_eq_getElem?_getD, List.getElem?_eq_getElem (by simpa using hi), Option.getD_some, List.getElem_map, allT_chunk hk hi]
  rfl
theorem txtB_iff (d : List ByteArray) : txtB d = true ↔ ∀ t ∈ d, t.size = 120 := by
  unfold txtB
  rw [List.all_eq_true]
  exact ⟨fun h t ht => by have := h t ht; rw [beq_iff_eq] at this; omega, fun h t ht => by rw [beq_iff_eq, h t ht]; rfl⟩
theorem all_st {K : Int} {l : List St} (h0 : 0 ≤ K) (hk : ∀ s ∈ l, s.d.length = K.toNat) : l.all (stB K) = txtB (allT l) := by
  rw [Bool.eq_iff_iff, List.all_eq_true, txtB_iff]
  constructor
  · intro h t ht
    obtain ⟨s, hs, ht⟩ := List.mem_flatMap.1 ht
    have := h s hs
    unfold stB at this
    simp only [Bool.and_eq_true] at this
    exact (txtB_iff _).1 this.2 t ht
  · intro h s hs
    unfold stB
    simp only [Bool.and_eq_true, beq_iff_eq]
    exact ⟨by rw [hk s hs]; omega, (txtB_iff _).2 fun t ht => h t (List.mem_flatMap.2 ⟨s, hs, ht⟩)⟩
/-- One text is another one. -/
theorem allT_set {l : List St} {k : Nat} (h : ∀ s ∈ l, s.d.length = k) {i j : Nat} (hi : i < l.length) (hj : j < k) (t : ByteArray) : allT (l.set i { l[i] with d := l[i].d.set j t }) = (allT l).set (i * k + j) t := by
  induction l generalizing i with
  | nil => exact absurd hi (Nat.not_lt_zero _)
  | cons s l ih =>
    have e : allT (s :: l) = s.d ++ allT l := rfl
    have hk := h s (List.mem_cons_self ..)
    cases i with
    | zero =>
      rw [Nat.zero_mul, Nat.zero_add, List.set_cons_zero, e, List.set_append_left _ _ (by omega)]; rfl
    | succ i =>
      rw [List.set_cons_succ, e, List.set_append_right _ _ (by rw [Nat.succ_mul]; omega), show (i + 1) * k + j - s.d.length = i * k + j by rw [Nat.succ_mul]; omega, ← ih (fun t ht => h t (List.mem_cons_of_mem _ ht)) (by simpa using hi)]
      rfl
theorem upto_set (b z : List ByteArray) {i : Nat} (hi : i < b.length) (hz : i < z.length) : (b.take i ++ z.drop i).set i b[i] = b.take (i + 1) ++ z.drop (i + 1) := by
  rw [List.set_append_right _ _ (by simp; omega), List.length_take, Nat.min_eq_left (by omega), Nat.sub_self, List.drop_eq_getElem_cons hz, List.set_cons_zero, List.take_succ_eq_append_getElem hi, List.append_assoc]; rfl
def GivesTk (w : World) (K M B : Int) (h : ByteArray) (b : List ByteArray) (e : Ending) (w' : World) : Prop :=
  ∃ v l, e = .returned (.tuple #[.agg #[.int .i64 (if takeB K M B h b then hdQ h else 0), v], .int .i64 (if takeB K M B h b then 0 else 110)]) ∧ SFam w' w.heap.size v l ∧ l.map pr = (if takeB K M B h b then takeL K h b else []) ∧ Below w.heap.size w w'
theorem GivesTk.bad {w w' : World} {K M B : Int} {h : ByteArray} {b : List ByteArray} (hB : takeB K M B h b = false) (hb : Below w.heap.size w w') : GivesTk w K M B h b (.returned (.tuple #[.agg #[.int .i64 0, .slice none 0 0], .int .i64 110])) w' := by
  refine ⟨.slice none 0 0, [], ?_, SFam.nil _ _, ?_, hb⟩
  · rw [hB]; rfl
  · rw [hB]; rfl
theorem GivesTk.ok {w w' : World} {K M B : Int} {h : ByteArray} {b : List ByteArray} {v : Value} {l : List St} (hB : takeB K M B h b = true) (hf : SFam w' w.heap.size v l) (hl : l.map pr = takeL K h b) (hb : Below w.heap.size w w') : GivesTk w K M B h b (.returned (.tuple #[.agg #[.int .i64 (hdQ h), v], .int .i64 0])) w' := by
  refine ⟨v, l, ?_, hf, ?_, hb⟩
  · rw [hB]; rfl
  · rw [hB]; exact hl
/-- A clone of texts. -/
theorem cloneT_any (v : Value) (d : List ByteArray) (w : World) (h : Reads w v (d.map .string)) (hn : d.length ≤ 1000) :
    Calls Tryd.prog 32 #[v] w fun e w' => ∃ u, e = .returned u ∧ Own w' w.heap.size 9 u (d.map .string) ∧ Below w.heap.size w w' := by
  rcases h with ⟨⟨a, c, rfl⟩, h0⟩ | ⟨b, off, cap, rfl, hb, hc⟩
  · rw [h0]
    cases a with
    | none => exact (Tryd.slices_Clone_string_nil 0 c w).mono fun e w' ⟨h1, h2⟩ => ⟨_, h1, by subst h2; exact ⟨World.ownsRow_nil _ _ _ _⟩, by subst h2; exact Below.refl _ _⟩
    | some a => exact (Tryd.slices_Clone_string_zero a c w).mono fun e w' ⟨u, h1, h2, _, h3⟩ => ⟨u, h1, ⟨h2⟩, h3⟩
  · rw [List.length_map] at hc ⊢
    refine (Tryd.slices_Clone_string b off d.length cap d w (Nat.le_refl _) (by omega) fun j hj => ?_).mono fun e w' ⟨u, h1, h2, _, h3⟩ => ⟨u, h1, ⟨?_⟩, h3⟩
    · rw [hc j hj]
      simp [List.getD_eq_getElem?_getD, List.getElem?_eq_getElem hj]
    · rw [List.take_of_length_le (Nat.le_refl _)] at h2
      rw [List.length_map]; exact h2
end
end Go.Proofs.YtdbjfofnkijmoaaDoor
