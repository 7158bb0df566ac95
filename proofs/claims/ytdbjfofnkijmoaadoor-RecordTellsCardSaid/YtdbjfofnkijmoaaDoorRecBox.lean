/- record: boxes of records. -/
import Derived.Test.YtdbjfofnkijmoaaDoorRecBase
import Derived.Test.YtdbjfofnkijmoaaDoorSl2
import Derived.Test.YtdbjfofnkijmoaaDoorRecWalk10
import Derived.Test.YtdbjfofnkijmoaaDoorRq
namespace Go.Proofs.YtdbjfofnkijmoaaDoor
section
open Go.RowKit
set_option linter.unusedVariables false
set_option linter.unusedSimpArgs false

/-- One cell of one element. -/
theorem Enc.all_set {α : Type} (E : Enc α) (l : List α) (i : Nat) (hi : i < l.length) (j : Nat) (hj : j < E.k) (u : Value) (a : α) (h : (E.f l[i]).set j u = E.f a) : (E.all l).set (i * E.k + j) u = E.all (l.set i a) := by
  induction l generalizing i with
  | nil => exact absurd hi (Nat.not_lt_zero _)
  | cons b l ih =>
    cases i with
    | zero =>
      rw [Nat.zero_mul, Nat.zero_add, List.set_cons_zero, E.all_cons, E.all_cons, List.set_append_left _ _ (by rw [E.len]; exact hj)]
      exact congrArg (· ++ E.all l) h
    | succ i =>
      rw [List.set_cons_succ, E.all_cons, E.all_cons, List.set_append_right _ _ (by rw [E.len, Nat.succ_mul]; omega), E.len, show (i + 1) * E.k + j - E.k = i * E.k + j by rw [Nat.succ_mul]; omega]
      exact congrArg (E.f b ++ ·) (ih i (by simpa using hi) h)
theorem OwnE.setIn {α : Type} {E : Enc α} {w : World} {B : Nat} {T : TypeId} {g n cap : Nat} {l : List α} (h : OwnE E w B T (.slice (some ⟨g, 0, none⟩) n cap) l) (i : Nat) (hi : i < l.length) (j : Nat) (hj : j < E.k) (u : Value) (a : α) (he : (E.f l[i]).set j u = E.f a) :
    OwnE E (w.setCell ⟨g, i * E.k + j, none⟩ u) B T (.slice (some ⟨g, 0, none⟩) n cap) (l.set i a) := by
  have hn : n = l.length := by rcases h.o.2 with ⟨h1, _⟩ | ⟨_, _, _, h1, _⟩ <;> simp at h1; exact h1.2.1
  subst hn
  refine ⟨?_⟩
  rw [List.length_set, ← E.all_set l i hi j hj u a he]
  exact (h.o.stored (i * E.k + j) u).1
/-- Stripes, all of them the call's own. -/
structure SFam (w : World) (B : Nat) (v : Value) (l : List St) : Prop where
  o : OwnE stE w B 52 v l
  d : ∀ s ∈ l, Own w B 9 s.v (s.d.map .string)
  p : (l.map St.v).Pairwise Apart
  q : ∀ s ∈ l, Apart s.v v
theorem SFam.nil (w : World) (B : Nat) : SFam w B (.slice none 0 0) [] := ⟨OwnE.nil _ _ _ _, fun _ h => (by cases h), List.Pairwise.nil, fun _ h => (by cases h)⟩
theorem SFam.reads {w : World} {B : Nat} {v : Value} {l : List St} (h : SFam w B v l) (hl : ∀ s ∈ l, s.d.length ≤ 140737488355328 ∧ ∀ t ∈ s.d, t.size ≤ 140737488355328) : SReads w v l :=
  SReads.of h.o.reads fun s hs => ⟨(h.d s hs).reads, (hl s hs).1, (hl s hs).2⟩
theorem SFam.after {w w' : World} {B : Nat} {v : Value} {l : List St} (h : SFam w B v l) (hb : Below w.heap.size w w') : SFam w' B v l := ⟨h.o.after hb, fun s hs => (h.d s hs).after hb, h.p, h.q⟩
theorem SFam.mono {w : World} {B B' : Nat} {v : Value} {l : List St} (h : SFam w B v l) (hB : B' ≤ B) : SFam w B' v l := ⟨h.o.mono hB, fun s hs => (h.d s hs).mono hB, h.p, h.q⟩
theorem SFam.old {w : World} {B : Nat} {v : Value} {l : List St} (h : SFam w B v l) : ∀ u, (u = v ∨ ∃ s ∈ l, u = s.v) → ∀ k, u.ownBlock = some k → B ≤ k ∧ k < w.heap.size := by
  rintro u (rfl | ⟨s, hs, rfl⟩) k hk
  · exact h.o.lt k hk
  · exact (h.d s hs).o.lt k hk
/-- What it owns stands there as before. -/
theorem SFam.heapO {w w' : World} {B : Nat} {v : Value} {l : List St} (h : SFam w B v l) (hk : ∀ u, (u = v ∨ ∃ s ∈ l, u = s.v) → ∀ k, u.ownBlock = some k → w'.heap[k]? = w.heap[k]?) : SFam w' B v l := by
  refine ⟨⟨h.o.o.1, ?_⟩, fun s hs => ⟨(h.d s hs).o.1, ?_⟩, h.p, h.q⟩
  · rcases h.o.o.2 with h1 | ⟨g, cap, cur, h1, h2, h3, h4⟩
    · exact .inl h1
    · exact .inr ⟨g, cap, cur, h1, h2, by rw [hk v (.inl rfl) g (by rw [h1]; rfl)]; exact h3, h4⟩
  · rcases (h.d s hs).o.2 with h1 | ⟨g, cap, cur, h1, h2, h3, h4⟩
    · exact .inl h1
    · exact .inr ⟨g, cap, cur, h1, h2, by rw [hk s.v (.inr ⟨s, hs, rfl⟩) g (by rw [h1]; rfl)]; exact h3, h4⟩
theorem SFam.heap {w w' : World} {B : Nat} {v : Value} {l : List St} (h : SFam w B v l) (hk : ∀ k, B ≤ k → k < w.heap.size → w'.heap[k]? = w.heap[k]?) : SFam w' B v l :=
  h.heapO fun u hu k e => hk k (h.old u hu k e).1 (h.old u hu k e).2
/-- One more, whose data are new. -/
theorem SFam.push {w w1 w2 : World} {B C : Nat} {v v' : Value} {l : List St} {s : St} (h : SFam w B v l) (hC : w.heap.size ≤ C) (hf : Own w1 C 9 s.v (s.d.map .string)) (h1 : SFam w1 B v l) (hw : w.heap.size ≤ w1.heap.size) (ho : OwnE stE w2 B 52 v' (l ++ [s]))
    (hk : KeptBut v w1 w2) (hv : v'.ownBlock = v.ownBlock ∨ v'.ownBlock = some (w1.heap.size + 1)) (hBC : B ≤ C) : SFam w2 B v' (l ++ [s]) := by
  have hold := h.old
  have new : ∀ k, s.v.ownBlock = some k → C ≤ k ∧ k < w1.heap.size := fun k hk => hf.o.lt k hk
  have newv : Apart s.v v := fun k h1 h2 => by
    have := (new k h1).1
    have := (hold v (.inl rfl) k h2).2
    omega
  refine ⟨ho, fun g hg => ?_, ?_, fun g hg k h3 h2 => ?_⟩
  · rcases List.mem_append.1 hg with hg | hg
    · exact (h1.d g hg).kept hk (h.q g hg)
    · obtain rfl : g = s := by simpa using hg
      exact (hf.kept hk newv).mono hBC
  · rw [List.map_append, List.pairwise_append]
    refine ⟨h.p, List.pairwise_singleton _ _, fun u hu t ht k h3 h4 => ?_⟩
    obtain ⟨g, hg, rfl⟩ := List.mem_map.1 hu
    obtain rfl : t = s.v := by simpa using ht
    have := (hold g.v (.inr ⟨g, hg, rfl⟩) k h3).2
    have := (new k h4).1
    omega
  · have lt : k < w1.heap.size := by
      rcases List.mem_append.1 hg with hg | hg
      · have := (hold g.v (.inr ⟨g, hg, rfl⟩) k h3).2; omega
      · obtain rfl : g = s := by simpa using hg
        exact (new k h3).2
    rcases hv with hv | hv
    · rw [hv] at h2
      rcases List.mem_append.1 hg with hg | hg
      · exact h.q g hg k h3 h2
      · obtain rfl : g = s := by simpa using hg
        exact newv k h3 h2
    · rw [hv] at h2
      have := Option.some.inj h2
      omega
theorem mem_set_of {α : Type} {l : List α} {i : Nat} {a x : α} (h : x ∈ l.set i a) : x = a ∨ x ∈ l := by
  rcases List.mem_or_eq_of_mem_set h with h | h
  · exact .inr h
  · exact .inl h
/-- A stripe's number. -/
theorem SFam.setN {w : World} {B g n cap : Nat} {l : List St} (h : SFam w B (.slice (some ⟨g, 0, none⟩) n cap) l) {i : Nat} (hi : i < l.length) (x : Int) :
    SFam (w.setCell ⟨g, i * 2, none⟩ (.int .i64 x)) B (.slice (some ⟨g, 0, none⟩) n cap) (l.set i { l[i] with n := x }) := by
  have o := h.o.setIn i hi 0 (by decide) (.int .i64 x) { l[i] with n := x } rfl
  have key : ∀ s ∈ l, Own (w.setCell ⟨g, i * 2, none⟩ (.int .i64 x)) B 9 s.v (s.d.map .string) := fun s hs => (h.d s hs).setOther (fun e => h.q s hs g e rfl) _
  refine ⟨o, fun s hs => ?_, ?_, fun s hs => ?_⟩
  · rcases mem_set_of hs with rfl | hs
    · exact key l[i] (List.getElem_mem hi)
    · exact key s hs
  · have e : (l.set i { l[i] with n := x }).map St.v = l.map St.v := by
      rw [List.map_set]
      show (l.map St.v).set i l[i].v = l.map St.v
      apply List.ext_getElem (by simp)
      intro j h1 h2
      rw [List.getElem_set]
      split
      · subst i; simp
      · rfl
    rw [e]; exact h.p
  · rcases mem_set_of hs with rfl | hs
    · exact h.q l[i] (List.getElem_mem hi)
    · exact h.q s hs
/-- One text of a stripe's data. -/
theorem SFam.setT {w : World} {B b m c : Nat} {v : Value} {l : List St} (h : SFam w B v l) {i : Nat} (hi : i < l.length) (hv : l[i].v = .slice (some ⟨b, 0, none⟩) m c) (j : Nat) (t : ByteArray) :
    SFam (w.setCell ⟨b, j, none⟩ (.string t)) B v (l.set i { l[i] with d := l[i].d.set j t }) := by
  have hne : v.ownBlock ≠ some b := h.q _ (List.getElem_mem hi) b (by rw [hv]; rfl)
  have o : OwnE stE (w.setCell ⟨b, j, none⟩ (.string t)) B 52 v (l.set i { l[i] with d := l[i].d.set j t }) := by
    have := h.o.setOther (a := ⟨b, j, none⟩) hne (.string t)
    refine ⟨?_⟩
    have e : stE.all (l.set i { l[i] with d := l[i].d.set j t }) = stE.all l := by
      rw [← stE.all_set l i hi 0 (by decide) (.int .i64 l[i].n) { l[i] with d := l[i].d.set j t } rfl]
      have g0 := stE.all_get l i hi 0 (by decide)
      apply List.ext_getElem?
      intro k
      rw [List.getElem?_set]
      split
      · subst k
        split
        · rw [g0]; rfl
        · rw [List.getElem?_eq_none (by omega)]
      · rfl
    rw [e, List.length_set]
    exact this.o
  have mine : Own (w.setCell ⟨b, j, none⟩ (.string t)) B 9 l[i].v ((l[i].d.set j t).map .string) := by
    have := h.d _ (List.getElem_mem hi)
    rw [hv] at this ⊢
    rw [List.map_set]
    exact this.set j _
  have hp := List.pairwise_iff_getElem.1 h.p
  refine ⟨o, fun s hs => ?_, ?_, fun s hs => ?_⟩
  · obtain ⟨k, hk, rfl⟩ := List.mem_iff_getElem.1 hs
    rw [List.length_set] at hk
    rw [List.getElem_set]
    split
    · exact mine
    · rename_i hik
      refine (h.d _ (List.getElem_mem hk)).setOther (fun e => ?_) _
      have hb : l[i].v.ownBlock = some b := by rw [hv]; rfl
      rcases Nat.lt_or_gt_of_ne hik with h1 | h1
      · exact hp i k (by simpa using hi) (by simpa using hk) h1 b (by simpa using hb) (by simpa using e)
      · exact hp k i (by simpa using hk) (by simpa using hi) h1 b (by simpa using e) (by simpa using hb)
  · have e : (l.set i { l[i] with d := l[i].d.set j t }).map St.v = l.map St.v := by
      rw [List.map_set]
      show (l.map St.v).set i l[i].v = l.map St.v
      apply List.ext_getElem (by simp)
      intro j h1 h2
      rw [List.getElem_set]
      split
      · subst i; simp
      · rfl
    rw [e]; exact h.p
  · rcases mem_set_of hs with rfl | hs
    · exact h.q l[i] (List.getElem_mem hi)
    · exact h.q s hs
/-- A stripe's data, which are new. -/
theorem SFam.setV {w : World} {B C g n cap : Nat} {l : List St} (h : SFam w B (.slice (some ⟨g, 0, none⟩) n cap) l) {i : Nat} (hi : i < l.length) {u : Value} {d : List ByteArray} (hu : Own w C 9 u (d.map .string)) (hB : B ≤ C) (hC : ∀ s ∈ l, ∀ k, s.v.ownBlock = some k → k < C) (hg : g < C) :
    SFam (w.setCell ⟨g, i * 2 + 1, none⟩ u) B (.slice (some ⟨g, 0, none⟩) n cap) (l.set i ⟨l[i].n, d, u⟩) := by
  obtain ⟨ua, uc, hus⟩ := hu.isSlice
  have o := h.o.setIn i hi 1 (by decide) u ⟨l[i].n, d, u⟩ (by rw [hus]; rfl)
  have hug : u.ownBlock ≠ some g := fun e => by have := (hu.o.lt g e).1; omega
  have key : ∀ s ∈ l, Own (w.setCell ⟨g, i * 2 + 1, none⟩ u) B 9 s.v (s.d.map .string) := fun s hs => (h.d s hs).setOther (fun e => h.q s hs g e rfl) _
  have mine : Own (w.setCell ⟨g, i * 2 + 1, none⟩ u) B 9 u (d.map .string) := (hu.setOther hug _).mono hB
  refine ⟨o, fun s hs => ?_, ?_, fun s hs => ?_⟩
  · rcases mem_set_of hs with rfl | hs
    · exact mine
    · exact key s hs
  · have hp := List.pairwise_iff_getElem.1 h.p
    rw [List.pairwise_iff_getElem]
    intro a b ha hb hab
    simp only [List.length_map, List.length_set] at ha hb
    simp only [List.getElem_map, List.getElem_set]
    by_cases h1 : i = a
    · subst h1
      rw [if_pos rfl, if_neg (by omega)]
      intro k hk h2
      have := (hu.o.lt k hk).1
      have := hC _ (List.getElem_mem hb) k h2
      omega
    · rw [if_neg h1]
      by_cases h3 : i = b
      · subst h3
        rw [if_pos rfl]
        intro k hk h2
        have := (hu.o.lt k h2).1
        have := hC _ (List.getElem_mem ha) k hk
        omega
      · rw [if_neg h3]
        have := hp a b (by simpa using ha) (by simpa using hb) hab
        rw [List.getElem_map, List.getElem_map] at this
        exact this
  · rcases mem_set_of hs with rfl | hs
    · exact fun k h1 h2 => by
        have e : g = k := Option.some.inj h2
        exact hug (e ▸ h1)
    · exact h.q s hs
end
section
open Go.RowKit
set_option linter.unusedVariables false
set_option linter.unusedSimpArgs false

open Rc
/-- A reader, k numbers of one byte further. -/
def rdTo (q : RS) : Nat → RS
  | 0 => q
  | k + 1 => rNumR (rdTo q k) 1
/-- A stripe without data. -/
def bare (n : Int) : St := ⟨n, [], .slice none 0 0⟩
/-- The stripes that k numbers tell. -/
def rdS (q : RS) (k : Nat) : List St := (List.range k).map fun i => bare ((rNum (rdTo q i) 1 : Nat) : Int)
theorem rdS_len (q : RS) (k : Nat) : (rdS q k).length = k := by simp [rdS]
theorem rdS_succ (q : RS) (k : Nat) : rdS q (k + 1) = rdS q k ++ [bare ((rNum (rdTo q k) 1 : Nat) : Int)] := by simp [rdS, List.range_succ]
theorem rdTo_size (q : RS) : ∀ k, (rdTo q k).s.size ≤ q.s.size
  | 0 => Nat.le_refl _
  | k + 1 => Nat.le_trans (rNumR_size _ _) (rdTo_size q k)
/-- The reader behind the mark, behind the number, behind how many. -/
def hd0 (h : ByteArray) : RS := ⟨h, false⟩
def hd1 (h : ByteArray) : RS := rTxtR (hd0 h) 4
def hd2 (h : ByteArray) : RS := rNumR (hd1 h) 6
def hd3 (h : ByteArray) : RS := rNumR (hd2 h) 1
def hdW (h : ByteArray) : ByteArray := rTxt (hd0 h) 4
def hdQ (h : ByteArray) : Int := ((rNum (hd1 h) 6 : Nat) : Int)
def hdK (h : ByteArray) : Nat := rNum (hd2 h) 1
theorem hdK_lt (h : ByteArray) : hdK h < 256 := rNum_lt (hd2 h) 1
theorem hdQ_rng (h : ByteArray) : 0 ≤ hdQ h ∧ hdQ h < 281474976710656 := by
  have : rNum (hd1 h) 6 < 256 ^ 6 := rNum_lt (hd1 h) 6
  unfold hdQ; omega
/-- The stripes; the sum; the reader at the end. -/
def hdS (h : ByteArray) : List St := rdS (hd3 h) (hdK h)
def hdC (h : ByteArray) : Int := ((rNum (rdTo (hd3 h) (hdK h)) 4 : Nat) : Int)
def hdE (h : ByteArray) : RS := rNumR (rdTo (hd3 h) (hdK h)) 4
def markS : ByteArray := ⟨#[74, 82, 78, 49]⟩
/-- Whether a text is a head. -/
def headB (K M B : Int) (h : ByteArray) : Bool := decide (hdW h = markS) && (!(hdE h).b && zeroB (hdE h).s && ordB K M B (hdQ h) (hdS h))
/-- More than sixteen are none. -/
theorem headB_many {K M B : Int} {h : ByteArray} (hk : 16 < hdK h) : headB K M B h = false := by
  have : ordB K M B (hdQ h) (hdS h) = false := by
    unfold ordB
    have e : decide (1 ≤ (hdS h).length ∧ (hdS h).length ≤ 16) = false := by
      rw [decide_eq_false_iff_not, hdS, rdS_len]; omega
    rw [e]; simp
  unfold headB; rw [this]; simp
theorem headB_mark {K M B : Int} {h : ByteArray} (hw : ¬ hdW h = markS) : headB K M B h = false := by
  unfold headB; rw [decide_eq_false hw]; rfl
/-- What a list's order says hangs on its numbers alone. -/
theorem incB_nums (top : Int) : ∀ (l m : List St) (last : Int), l.map (·.n) = m.map (·.n) → incB top last l = incB top last m
  | [], [], _, _ => rfl
  | [], _ :: _, _, h => by simp at h
  | _ :: _, [], _, h => by simp at h
  | a :: l, b :: m, last, h => by
    simp only [List.map_cons, List.cons.injEq] at h
    rw [incB_cons, incB_cons, h.1, incB_nums top l m _ h.2]
theorem ordB_nums {K M B q : Int} {l m : List St} (h : l.map (·.n) = m.map (·.n)) : ordB K M B q l = ordB K M B q m := by
  have hl : l.length = m.length := by have := congrArg List.length h; simpa using this
  unfold ordB; rw [hl, incB_nums _ l m _ h]
end
section
open Go.RowKit
set_option linter.unusedVariables false
set_option linter.unusedSimpArgs false

open Rc
/-- A record in memory, which may be written. -/
structure RBx (w : World) (b : Nat) (q : Int) (v : Value) : Prop where
  c0 : w.cell? ⟨b, 0, none⟩ = some (.int .i64 q)
  c1 : w.cell? ⟨b, 1, none⟩ = some v
  f0 : w.frozen? ⟨b, 0, none⟩ = false
  f1 : w.frozen? ⟨b, 1, none⟩ = false
  lt : b < w.heap.size
theorem RBx.made (w : World) (q : Int) (v : Value) (T : TypeId) : RBx (w.alloc (.cells #[.int .i64 q, v] T)) w.heap.size q v :=
  ⟨by rw [World.cell?_alloc_mark]; rfl, by rw [World.cell?_alloc_mark]; rfl, frozen_of_row _ _ _ _ _ (heap_alloc_new _ _), frozen_of_row _ _ _ _ _ (heap_alloc_new _ _), by simp⟩
theorem RBx.heap {w w' : World} {b : Nat} {q : Int} {v : Value} (h : RBx w b q v) (e : w'.heap[b]? = w.heap[b]?) (hs : w.heap.size ≤ w'.heap.size) : RBx w' b q v :=
  ⟨(cell_of_heap e 0).trans h.c0, (cell_of_heap e 1).trans h.c1, (frozen_of_heap e 0).trans h.f0, (frozen_of_heap e 1).trans h.f1, Nat.lt_of_lt_of_le h.lt hs⟩
theorem RBx.below {w w' : World} {b B : Nat} {q : Int} {v : Value} (h : RBx w b q v) (hb : Below B w w') (hB : b < B) : RBx w' b q v := h.heap (hb.block b hB) hb.size
theorem RBx.rd {w w' : World} {b r : Nat} {q : Int} {v : Value} {s : ByteArray} {bad : Bool} (h : RBx w b q v) (k : RdTo w r s bad w') (hne : b ≠ r) : RBx w' b q v := h.heap (k.oth b h.lt hne) k.size
theorem RBx.put {w : World} {b : Nat} {q : Int} {v : Value} (h : RBx w b q v) (p : Int) (u : Value) : RBx ((w.setCell ⟨b, 0, none⟩ (.int .i64 p)).setCell ⟨b, 1, none⟩ u) b p u := by
  refine ⟨?_, ?_, ?_, ?_, ?_⟩
  · rw [World.cell?_setCell_other _ _ _ _ (by simp)]; exact World.cell?_setCell_same' _ _ _ (by rw [h.c0]; rfl)
  · exact World.cell?_setCell_same' _ _ _ (by rw [World.cell?_setCell_other _ _ _ _ (by simp), h.c1]; rfl)
  · rw [World.frozen?_setCell, World.frozen?_setCell]; exact h.f0
  · rw [World.frozen?_setCell, World.frozen?_setCell]; exact h.f1
  · simpa using h.lt
theorem RBx.set1 {w : World} {b : Nat} {q : Int} {v : Value} (h : RBx w b q v) (u : Value) : RBx (w.setCell ⟨b, 1, none⟩ u) b q u := by
  refine ⟨?_, ?_, ?_, ?_, ?_⟩
  · rw [World.cell?_setCell_other _ _ _ _ (by simp)]; exact h.c0
  · exact World.cell?_setCell_same' _ _ _ (by rw [h.c1]; rfl)
  · rw [World.frozen?_setCell]; exact h.f0
  · rw [World.frozen?_setCell]; exact h.f1
  · simpa using h.lt
theorem RBx.set0 {w : World} {b : Nat} {q : Int} {v : Value} (h : RBx w b q v) (p : Int) : RBx (w.setCell ⟨b, 0, none⟩ (.int .i64 p)) b p v := by
  refine ⟨?_, ?_, ?_, ?_, ?_⟩
  · exact World.cell?_setCell_same' _ _ _ (by rw [h.c0]; rfl)
  · rw [World.cell?_setCell_other _ _ _ _ (by simp)]; exact h.c1
  · rw [World.frozen?_setCell]; exact h.f0
  · rw [World.frozen?_setCell]; exact h.f1
  · simpa using h.lt
/-- A geometry in memory. -/
structure GBx (w : World) (b : Nat) (K M B : Int) : Prop where
  c0 : w.cell? ⟨b, 0, none⟩ = some (.int .i64 K)
  c1 : w.cell? ⟨b, 1, none⟩ = some (.int .i64 M)
  c2 : w.cell? ⟨b, 2, none⟩ = some (.int .i64 B)
  lt : b < w.heap.size
theorem GBx.made (w : World) (K M B : Int) (T : TypeId) : GBx (w.alloc (.cells #[.int .i64 K, .int .i64 M, .int .i64 B] T)) w.heap.size K M B :=
  ⟨by rw [World.cell?_alloc_mark]; rfl, by rw [World.cell?_alloc_mark]; rfl, by rw [World.cell?_alloc_mark]; rfl, by simp⟩
theorem GBx.heap {w w' : World} {b : Nat} {K M B : Int} (h : GBx w b K M B) (e : w'.heap[b]? = w.heap[b]?) (hs : w.heap.size ≤ w'.heap.size) : GBx w' b K M B :=
  ⟨(cell_of_heap e 0).trans h.c0, (cell_of_heap e 1).trans h.c1, (cell_of_heap e 2).trans h.c2, Nat.lt_of_lt_of_le h.lt hs⟩
theorem GBx.below {w w' : World} {b C : Nat} {K M B : Int} (h : GBx w b K M B) (hb : Below C w w') (hB : b < C) : GBx w' b K M B := h.heap (hb.block b hB) hb.size
theorem GBx.rd {w w' : World} {b r : Nat} {K M B : Int} {s : ByteArray} {bad : Bool} (h : GBx w b K M B) (k : RdTo w r s bad w') (hne : b ≠ r) : GBx w' b K M B := h.heap (k.oth b h.lt hne) k.size
theorem RdAt.hp {w w' : World} {b : Nat} {s : ByteArray} {bad : Bool} (h : RdAt w b s bad) (e : w'.heap[b]? = w.heap[b]?) (hs : w.heap.size ≤ w'.heap.size) : RdAt w' b s bad :=
  ⟨(cell_of_heap e 0).trans h.c0, (cell_of_heap e 1).trans h.c1, (frozen_of_heap e 0).trans h.f0, (frozen_of_heap e 1).trans h.f1, Nat.lt_of_lt_of_le h.lt hs⟩
/-- Both stores of a record, as seen from below. -/
theorem put_below {B : Nat} {w0 w : World} (h : Below B w0 w) {b : Nat} (hb : B ≤ b) (p : Int) (u : Value) : Below B w0 ((w.setCell ⟨b, 0, none⟩ (.int .i64 p)).setCell ⟨b, 1, none⟩ u) :=
  (h.setCell (p := ⟨b, 0, none⟩) hb _).setCell (p := ⟨b, 1, none⟩) hb _
theorem put_heap (w : World) (b : Nat) (p : Int) (u : Value) {k : Nat} (hk : k ≠ b) : ((w.setCell ⟨b, 0, none⟩ (.int .i64 p)).setCell ⟨b, 1, none⟩ u).heap[k]? = w.heap[k]? := by
  rw [Below.heap_setCell _ _ _ _ hk, Below.heap_setCell _ _ _ _ hk]
theorem mark_eq (h : ByteArray) : ((rTxt ⟨h, false⟩ 4).toList == [74, 82, 78, 49]) = decide (hdW h = markS) := by
  rw [show ([74, 82, 78, 49] : List UInt8) = markS.data.toList from rfl, Lib.toList_data, Bool.eq_iff_iff, beq_iff_eq, decide_eq_true_eq]
  exact ⟨fun e => Go.WideShapes.bytes_inj e, fun e => by rw [show rTxt ⟨h, false⟩ 4 = hdW h from rfl, e]⟩
end
end Go.Proofs.YtdbjfofnkijmoaaDoor
