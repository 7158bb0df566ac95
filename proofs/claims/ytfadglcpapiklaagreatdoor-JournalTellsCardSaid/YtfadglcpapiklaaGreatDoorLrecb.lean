/- Lrecb: what this claim reaches of RecBox, RecParse, RecDRead and others. -/
import Derived.Test.YtfadglcpapiklaaGreatDoorLreca
import Derived.Test.YtfadglcpapiklaaGreatDoorLmem
import Derived.Test.YtfadglcpapiklaaGreatDoorLbase
import Derived.StillTailTactics
import Derived.Deep.RegionHeld3
import Derived.Deep.RegionLaw
import Derived.IntWalk
import Derived.Deep.Cut
import Derived.RegionTactic
import Derived.Laws.Cover1
import Derived.Test.YtfadglcpapiklaaGreatDoorShelf
section
namespace Go.Proofs.YtfadglcpapiklaaGreatDoor
section
open Go.RowKit
set_option linter.unusedVariables false
set_option linter.unusedSimpArgs false

/-- Stripes, all of them the call's own. -/
structure SFam (w : World) (B : Nat) (v : Value) (l : List St) : Prop where
  o : OwnE stE w B 76 v l
  d : ∀ s ∈ l, Own w B 9 s.v (s.d.map .string)
  p : (l.map St.v).Pairwise Apart
  q : ∀ s ∈ l, Apart s.v v
theorem SFam.nil (w : World) (B : Nat) : SFam w B (.slice none 0 0) [] := ⟨OwnE.nil _ _ _ _, fun _ h => (by cases h), List.Pairwise.nil, fun _ h => (by cases h)⟩
theorem SFam.reads {w : World} {B : Nat} {v : Value} {l : List St} (h : SFam w B v l) (hl : ∀ s ∈ l, s.d.length ≤ 140737488355328 ∧ ∀ t ∈ s.d, t.size ≤ 140737488355328) : SReads w v l :=
  SReads.of h.o.reads fun s hs => ⟨(h.d s hs).reads, (hl s hs).1, (hl s hs).2⟩
theorem SFam.after {w w' : World} {B : Nat} {v : Value} {l : List St} (h : SFam w B v l) (hb : Below w.heap.size w w') : SFam w' B v l := ⟨h.o.after hb, fun s hs => (h.d s hs).after hb, h.p, h.q⟩
theorem SFam.mono {w : World} {B B' : Nat} {v : Value} {l : List St} (h : SFam w B v l) (hB : B' ≤ B) : SFam w B' v l := ⟨h.o.mono hB, fun s hs => (h.d s hs).mono hB, h.p, h.q⟩
theorem SFam.old {w : World} {B : Nat} {v : Value} {l : List St} (h : SFam w B v l) : ∀ u, (u = v ∨ ∃ s ∈ l, u = s.v) → ∀ k, u.ownBlock = some k → B ≤ k ∧ k < w.heap.size := by
  rintro u (rfl | ⟨s, hs, rfl⟩) k hk
  · exact h.o.lt k hk
  · exact (h.d s hs).o.lt k hk
/-- What it owns stands there as before. -/
theorem SFam.heapO {w w' : World} {B : Nat} {v : Value} {l : List St} (h : SFam w B v l) (hk : ∀ u, (u = v ∨ ∃ s ∈ l, u = s.v) → ∀ k, u.ownBlock = some k → w'.heap[k]? = w.heap[k]?) : SFam w' B v l := by
  refine ⟨⟨h.o.o.1, ?_⟩, fun s hs => ⟨(h.d s hs).o.1, ?_⟩, h.p, h.q⟩
  · rcases h.o.o.2 with h1 | ⟨g, cap, cur, h1, h2, h3, h4⟩
    · exact .inl h1
    · exact .inr ⟨g, cap, cur, h1, h2, by rw [hk v (.inl rfl) g (by rw [h1]; rfl)]; exact h3, h4⟩
  · rcases (h.d s hs).o.2 with h1 | ⟨g, cap, cur, h1, h2, h3, h4⟩
    · exact .inl h1
    · exact .inr ⟨g, cap, cur, h1, h2, by rw [hk s.v (.inr ⟨s, hs, rfl⟩) g (by rw [h1]; rfl)]; exact h3, h4⟩
theorem SFam.heap {w w' : World} {B : Nat} {v : Value} {l : List St} (h : SFam w B v l) (hk : ∀ k, B ≤ k → k < w.heap.size → w'.heap[k]? = w.heap[k]?) : SFam w' B v l :=
  h.heapO fun u hu k e => hk k (h.old u hu k e).1 (h.old u hu k e).2
/-- One more, whose data are new. -/
theorem SFam.push {w w1 w2 : World} {B C : Nat} {v v' : Value} {l : List St} {s : St} (h : SFam w B v l) (hC : w.heap.size ≤ C) (hf : Own w1 C 9 s.v (s.d.map .string)) (h1 : SFam w1 B v l) (hw : w.heap.size ≤ w1.heap.size) (ho : OwnE stE w2 B 76 v' (l ++ [s]))
    (hk : KeptBut v w1 w2) (hv : v'.ownBlock = v.ownBlock ∨ v'.ownBlock = some (w1.heap.size + 1)) (hBC : B ≤ C) : SFam w2 B v' (l ++ [s]) := by
  have hold := h.old
  have new : ∀ k, s.v.ownBlock = some k → C ≤ k ∧ k < w1.heap.size := fun k hk => hf.o.lt k hk
  have newv : Apart s.v v := fun k h1 h2 => by
    have := (new k h1).1
    have := (hold v (.inl rfl) k h2).2
    omega
  refine ⟨ho, fun g hg => ?_, ?_, fun g hg k h3 h2 => ?_⟩
  · rcases List.mem_append.1 hg with hg | hg
    · exact (h1.d g hg).kept hk (h.q g hg)
    · obtain rfl : g = s := by simpa using hg
      exact (hf.kept hk newv).mono hBC
  · rw [List.map_append, List.pairwise_append]
    refine ⟨h.p, List.pairwise_singleton _ _, fun u hu t ht k h3 h4 => ?_⟩
    obtain ⟨g, hg, rfl⟩ := List.mem_map.1 hu
    obtain rfl : t = s.v := by simpa using ht
    have := (hold g.v (.inr ⟨g, hg, rfl⟩) k h3).2
    have := (new k h4).1
    omega
  · have lt : k < w1.heap.size := by
      rcases List.mem_append.1 hg with hg | hg
      · have := (hold g.v (.inr ⟨g, hg, rfl⟩) k h3).2; omega
      · obtain rfl : g = s := by simpa using hg
        exact (new k h3).2
    rcases hv with hv | hv
    · rw [hv] at h2
      rcases List.mem_append.1 hg with hg | hg
      · exact h.q g hg k h3 h2
      · obtain rfl : g = s := by simpa using hg
        exact newv k h3 h2
    · rw [hv] at h2
      have := Option.some.inj h2
      omega
theorem mem_set_of {α : Type} {l : List α} {i : Nat} {a x : α} (h : x ∈ l.set i a) : x = a ∨ x ∈ l := by
  rcases List.mem_or_eq_of_mem_set h with h | h
  · exact .inr h
  · exact .inl h
/-- A stripe's number. -/
theorem SFam.setN {w : World} {B g n cap : Nat} {l : List St} (h : SFam w B (.slice (some ⟨g, 0, none⟩) n cap) l) {i : Nat} (hi : i < l.length) (x : Int) :
    SFam (w.setCell ⟨g, i * 2, none⟩ (.int .i64 x)) B (.slice (some ⟨g, 0, none⟩) n cap) (l.set i { l[i] with n := x }) := by
  have o := h.o.setIn i hi 0 (by decide) (.int .i64 x) { l[i] with n := x } rfl
  have key : ∀ s ∈ l, Own (w.setCell ⟨g, i * 2, none⟩ (.int .i64 x)) B 9 s.v (s.d.map .string) := fun s hs => (h.d s hs).setOther (fun e => h.q s hs g e rfl) _
  refine ⟨o, fun s hs => ?_, ?_, fun s hs => ?_⟩
  · rcases mem_set_of hs with rfl | hs
    · exact key l[i] (List.getElem_mem hi)
    · exact key s hs
  · have e : (l.set i { l[i] with n := x }).map St.v = l.map St.v := by
      rw [List.map_set]
      show (l.map St.v).set i l[i].v = l.map St.v
      apply List.ext_getElem (by simp)
      intro j h1 h2
      rw [List.getElem_set]
      split
      · subst i; simp
      · rfl
    rw [e]; exact h.p
  · rcases mem_set_of hs with rfl | hs
    · exact h.q l[i] (List.getElem_mem hi)
    · exact h.q s hs
/-- One text of a stripe's data. -/
theorem SFam.setT {w : World} {B b m c : Nat} {v : Value} {l : List St} (h : SFam w B v l) {i : Nat} (hi : i < l.length) (hv : l[i].v = .slice (some ⟨b, 0, none⟩) m c) (j : Nat) (t : ByteArray) :
    SFam (w.setCell ⟨b, j, none⟩ (.string t)) B v (l.set i { l[i] with d := l[i].d.set j t }) := by
  have hne : v.ownBlock ≠ some b := h.q _ (List.getElem_mem hi) b (by rw [hv]; rfl)
  have o : OwnE stE (w.setCell ⟨b, j, none⟩ (.string t)) B 76 v (l.set i { l[i] with d := l[i].d.set j t }) := by
    have := h.o.setOther (a := ⟨b, j, none⟩) hne (.string t)
    refine ⟨?_⟩
    have e : stE.all (l.set i { l[i] with d := l[i].d.set j t }) = stE.all l := by
      rw [← stE.all_set l i hi 0 (by decide) (.int .i64 l[i].n) { l[i] with d := l[i].d.set j t } rfl]
      have g0 := stE.all_get l i hi 0 (by decide)
      apply List.ext_getElem?
      intro k
      rw [List.getElem?_set]
      split
      · subst k
        split
        · rw [g0]; rfl
        · rw [List.getElem?_eq_none (by omega)]
      · rfl
    rw [e, List.length_set]
    exact this.o
  have mine : Own (w.setCell ⟨b, j, none⟩ (.string t)) B 9 l[i].v ((l[i].d.set j t).map .string) := by
    have := h.d _ (List.getElem_mem hi)
    rw [hv] at this ⊢
    rw [List.map_set]
    exact this.set j _
  have hp := List.pairwise_iff_getElem.1 h.p
  refine ⟨o, fun s hs => ?_, ?_, fun s hs => ?_⟩
  · obtain ⟨k, hk, rfl⟩ := List.mem_iff_getElem.1 hs
    rw [List.length_set] at hk
    rw [List.getElem_set]
    split
    · exact mine
    · rename_i hik
      refine (h.d _ (List.getElem_mem hk)).setOther (fun e => ?_) _
      have hb : l[i].v.ownBlock = some b := by rw [hv]; rfl
      rcases Nat.lt_or_gt_of_ne hik with h1 | h1
      · exact hp i k (by simpa using hi) (by simpa using hk) h1 b (by simpa using hb) (by simpa using e)
      · exact hp k i (by simpa using hk) (by simpa using hi) h1 b (by simpa using e) (by simpa using hb)
  · have e : (l.set i { l[i] with d := l[i].d.set j t }).map St.v = l.map St.v := by
      rw [List.map_set]
      show (l.map St.v).set i l[i].v = l.map St.v
      apply List.ext_getElem (by simp)
      intro j h1 h2
      rw [List.getElem_set]
      split
      · subst i; simp
      · rfl
    rw [e]; exact h.p
  · rcases mem_set_of hs with rfl | hs
    · exact h.q l[i] (List.getElem_mem hi)
    · exact h.q s hs
/-- A stripe's data, which are new. -/
theorem SFam.setV {w : World} {B C g n cap : Nat} {l : List St} (h : SFam w B (.slice (some ⟨g, 0, none⟩) n cap) l) {i : Nat} (hi : i < l.length) {u : Value} {d : List ByteArray} (hu : Own w C 9 u (d.map .string)) (hB : B ≤ C) (hC : ∀ s ∈ l, ∀ k, s.v.ownBlock = some k → k < C) (hg : g < C) :
    SFam (w.setCell ⟨g, i * 2 + 1, none⟩ u) B (.slice (some ⟨g, 0, none⟩) n cap) (l.set i ⟨l[i].n, d, u⟩) := by
  obtain ⟨ua, uc, hus⟩ := hu.isSlice
  have o := h.o.setIn i hi 1 (by decide) u ⟨l[i].n, d, u⟩ (by rw [hus]; rfl)
  have hug : u.ownBlock ≠ some g := fun e => by have := (hu.o.lt g e).1; omega
  have key : ∀ s ∈ l, Own (w.setCell ⟨g, i * 2 + 1, none⟩ u) B 9 s.v (s.d.map .string) := fun s hs => (h.d s hs).setOther (fun e => h.q s hs g e rfl) _
  have mine : Own (w.setCell ⟨g, i * 2 + 1, none⟩ u) B 9 u (d.map .string) := (hu.setOther hug _).mono hB
  refine ⟨o, fun s hs => ?_, ?_, fun s hs => ?_⟩
  · rcases mem_set_of hs with rfl | hs
    · exact mine
    · exact key s hs
  · have hp := List.pairwise_iff_getElem.1 h.p
    rw [List.pairwise_iff_getElem]
    intro a b ha hb hab
    simp only [List.length_map, List.length_set] at ha hb
    simp only [List.getElem_map, List.getElem_set]
    by_cases h1 : i = a
    · subst h1
      rw [if_pos rfl, if_neg (by omega)]
      intro k hk h2
      have := (hu.o.lt k hk).1
      have := hC _ (List.getElem_mem hb) k h2
      omega
    · rw [if_neg h1]
      by_cases h3 : i = b
      · subst h3
        rw [if_pos rfl]
        intro k hk h2
        have := (hu.o.lt k h2).1
        have := hC _ (List.getElem_mem ha) k hk
        omega
      · rw [if_neg h3]
        have := hp a b (by simpa using ha) (by simpa using hb) hab
        rw [List.getElem_map, List.getElem_map] at this
        exact this
  · rcases mem_set_of hs with rfl | hs
    · exact fun k h1 h2 => by
        have e : g = k := Option.some.inj h2
        exact hug (e ▸ h1)
    · exact h.q s hs
end
section
open Go.RowKit
set_option linter.unusedVariables false
set_option linter.unusedSimpArgs false

open Rc
/-- A reader, k numbers of one byte further. -/
def rdTo (q : RS11) : Nat → RS11
  | 0 => q
  | k + 1 => rNumR (rdTo q k) 1
/-- A stripe without data. -/
def bare (n : Int) : St := ⟨n, [], .slice none 0 0⟩
/-- The stripes that k numbers tell. -/
def rdS11 (q : RS11) (k : Nat) : List St := (List.range k).map fun i => bare ((rNum (rdTo q i) 1 : Nat) : Int)
theorem rdS_len (q : RS11) (k : Nat) : (rdS11 q k).length = k := by simp [rdS11]
theorem rdS_succ (q : RS11) (k : Nat) : rdS11 q (k + 1) = rdS11 q k ++ [bare ((rNum (rdTo q k) 1 : Nat) : Int)] := by simp [rdS11, List.range_succ]
theorem rdTo_size (q : RS11) : ∀ k, (rdTo q k).s.size ≤ q.s.size
  | 0 => Nat.le_refl _
  | k + 1 => Nat.le_trans (rNumR_size _ _) (rdTo_size q k)
/-- The reader behind the mark, behind the number, behind how many. -/
def hd0 (h : ByteArray) : RS11 := ⟨h, false⟩
def hd1 (h : ByteArray) : RS11 := rTxtR (hd0 h) 4
def hd2 (h : ByteArray) : RS11 := rNumR (hd1 h) 6
def hd3 (h : ByteArray) : RS11 := rNumR (hd2 h) 1
def hdW (h : ByteArray) : ByteArray := rTxt (hd0 h) 4
def hdQ (h : ByteArray) : Int := ((rNum (hd1 h) 6 : Nat) : Int)
def hdK (h : ByteArray) : Nat := rNum (hd2 h) 1
theorem hdK_lt (h : ByteArray) : hdK h < 256 := rNum_lt (hd2 h) 1
theorem hdQ_rng (h : ByteArray) : 0 ≤ hdQ h ∧ hdQ h < 281474976710656 := by
  have : rNum (hd1 h) 6 < 256 ^ 6 := rNum_lt (hd1 h) 6
  unfold hdQ; omega
/-- The stripes; the sum; the reader at the end. -/
def hdS (h : ByteArray) : List St := rdS11 (hd3 h) (hdK h)
def hdC (h : ByteArray) : Int := ((rNum (rdTo (hd3 h) (hdK h)) 4 : Nat) : Int)
def hdE (h : ByteArray) : RS11 := rNumR (rdTo (hd3 h) (hdK h)) 4
def markS : ByteArray := ⟨#[74, 82, 78, 49]⟩
/-- Whether a text is a head. -/
def headB (K M B : Int) (h : ByteArray) : Bool := decide (hdW h = markS) && (!(hdE h).b && zeroB (hdE h).s && ordB K M B (hdQ h) (hdS h))
/-- More than sixteen are none. -/
theorem headB_many {K M B : Int} {h : ByteArray} (hk : 16 < hdK h) : headB K M B h = false := by
  have : ordB K M B (hdQ h) (hdS h) = false := by
    unfold ordB
    have e : decide (1 ≤ (hdS h).length ∧ (hdS h).length ≤ 16) = false := by
      rw [decide_eq_false_iff_not, hdS, rdS_len]; omega
    rw [e]; simp
  unfold headB; rw [this]; simp
theorem headB_mark {K M B : Int} {h : ByteArray} (hw : ¬ hdW h = markS) : headB K M B h = false := by
  unfold headB; rw [decide_eq_false hw]; rfl
/-- What a list's order says hangs on its numbers alone. -/
theorem incB_nums (top : Int) : ∀ (l m : List St) (last : Int), l.map (·.n) = m.map (·.n) → incB top last l = incB top last m
  | [], [], _, _ => rfl
  | [], _ :: _, _, h => by simp at h
  | _ :: _, [], _, h => by simp at h
  | a :: l, b :: m, last, h => by
    simp only [List.map_cons, List.cons.injEq] at h
    rw [incB_cons, incB_cons, h.1, incB_nums top l m _ h.2]
theorem ordB_nums {K M B q : Int} {l m : List St} (h : l.map (·.n) = m.map (·.n)) : ordB K M B q l = ordB K M B q m := by
  have hl : l.length = m.length := by have := congrArg List.length h; simpa using this
  unfold ordB; rw [hl, incB_nums _ l m _ h]
end
section
open Go.RowKit
set_option linter.unusedVariables false
set_option linter.unusedSimpArgs false

open Rc
/-- A record in memory, which may be written. -/
structure RBx (w : World) (b : Nat) (q : Int) (v : Value) : Prop where
  c0 : w.cell? ⟨b, 0, none⟩ = some (.int .i64 q)
  c1 : w.cell? ⟨b, 1, none⟩ = some v
  f0 : w.frozen? ⟨b, 0, none⟩ = false
  f1 : w.frozen? ⟨b, 1, none⟩ = false
  lt : b < w.heap.size
theorem RBx.made (w : World) (q : Int) (v : Value) (T : TypeId) : RBx (w.alloc (.cells #[.int .i64 q, v] T)) w.heap.size q v :=
  ⟨by rw [World.cell?_alloc_mark]; rfl, by rw [World.cell?_alloc_mark]; rfl, frozen_of_row _ _ _ _ _ (heap_alloc_new _ _), frozen_of_row _ _ _ _ _ (heap_alloc_new _ _), by simp⟩
theorem RBx.heap {w w' : World} {b : Nat} {q : Int} {v : Value} (h : RBx w b q v) (e : w'.heap[b]? = w.heap[b]?) (hs : w.heap.size ≤ w'.heap.size) : RBx w' b q v :=
  ⟨(cell_of_heap11 e 0).trans h.c0, (cell_of_heap11 e 1).trans h.c1, (frozen_of_heap e 0).trans h.f0, (frozen_of_heap e 1).trans h.f1, Nat.lt_of_lt_of_le h.lt hs⟩
theorem RBx.below {w w' : World} {b B : Nat} {q : Int} {v : Value} (h : RBx w b q v) (hb : Below B w w') (hB : b < B) : RBx w' b q v := h.heap (hb.block b hB) hb.size
theorem RBx.rd {w w' : World} {b r : Nat} {q : Int} {v : Value} {s : ByteArray} {bad : Bool} (h : RBx w b q v) (k : RdTo w r s bad w') (hne : b ≠ r) : RBx w' b q v := h.heap (k.oth b h.lt hne) k.size
theorem RBx.put {w : World} {b : Nat} {q : Int} {v : Value} (h : RBx w b q v) (p : Int) (u : Value) : RBx ((w.setCell ⟨b, 0, none⟩ (.int .i64 p)).setCell ⟨b, 1, none⟩ u) b p u := by
  refine ⟨?_, ?_, ?_, ?_, ?_⟩
  · rw [World.cell?_setCell_other _ _ _ _ (by simp)]; exact World.cell?_setCell_same' _ _ _ (by rw [h.c0]; rfl)
  · exact World.cell?_setCell_same' _ _ _ (by rw [World.cell?_setCell_other _ _ _ _ (by simp), h.c1]; rfl)
  · rw [World.frozen?_setCell, World.frozen?_setCell]; exact h.f0
  · rw [World.frozen?_setCell, World.frozen?_setCell]; exact h.f1
  · simpa using h.lt
theorem RBx.set1 {w : World} {b : Nat} {q : Int} {v : Value} (h : RBx w b q v) (u : Value) : RBx (w.setCell ⟨b, 1, none⟩ u) b q u := by
  refine ⟨?_, ?_, ?_, ?_, ?_⟩
  · rw [World.cell?_setCell_other _ _ _ _ (by simp)]; exact h.c0
  · exact World.cell?_setCell_same' _ _ _ (by rw [h.c1]; rfl)
  · rw [World.frozen?_setCell]; exact h.f0
  · rw [World.frozen?_setCell]; exact h.f1
  · simpa using h.lt
theorem RBx.set0 {w : World} {b : Nat} {q : Int} {v : Value} (h : RBx w b q v) (p : Int) : RBx (w.setCell ⟨b, 0, none⟩ (.int .i64 p)) b p v := by
  refine ⟨?_, ?_, ?_, ?_, ?_⟩
  · exact World.cell?_setCell_same' _ _ _ (by rw [h.c0]; rfl)
  · rw [World.cell?_setCell_other _ _ _ _ (by simp)]; exact h.c1
  · rw [World.frozen?_setCell]; exact h.f0
  · rw [World.frozen?_setCell]; exact h.f1
  · simpa using h.lt
/-- A geometry in memory. -/
structure GBx (w : World) (b : Nat) (K M B : Int) : Prop where
  c0 : w.cell? ⟨b, 0, none⟩ = some (.int .i64 K)
  c1 : w.cell? ⟨b, 1, none⟩ = some (.int .i64 M)
  c2 : w.cell? ⟨b, 2, none⟩ = some (.int .i64 B)
  lt : b < w.heap.size
theorem GBx.made (w : World) (K M B : Int) (T : TypeId) : GBx (w.alloc (.cells #[.int .i64 K, .int .i64 M, .int .i64 B] T)) w.heap.size K M B :=
  ⟨by rw [World.cell?_alloc_mark]; rfl, by rw [World.cell?_alloc_mark]; rfl, by rw [World.cell?_alloc_mark]; rfl, by simp⟩
theorem GBx.heap {w w' : World} {b : Nat} {K M B : Int} (h : GBx w b K M B) (e : w'.heap[b]? = w.heap[b]?) (hs : w.heap.size ≤ w'.heap.size) : GBx w' b K M B :=
  ⟨(cell_of_heap11 e 0).trans h.c0, (cell_of_heap11 e 1).trans h.c1, (cell_of_heap11 e 2).trans h.c2, Nat.lt_of_lt_of_le h.lt hs⟩
theorem GBx.below {w w' : World} {b C : Nat} {K M B : Int} (h : GBx w b K M B) (hb : Below C w w') (hB : b < C) : GBx w' b K M B := h.heap (hb.block b hB) hb.size
theorem GBx.rd {w w' : World} {b r : Nat} {K M B : Int} {s : ByteArray} {bad : Bool} (h : GBx w b K M B) (k : RdTo w r s bad w') (hne : b ≠ r) : GBx w' b K M B := h.heap (k.oth b h.lt hne) k.size
theorem RdAt.hp {w w' : World} {b : Nat} {s : ByteArray} {bad : Bool} (h : RdAt w b s bad) (e : w'.heap[b]? = w.heap[b]?) (hs : w.heap.size ≤ w'.heap.size) : RdAt w' b s bad :=
  ⟨(cell_of_heap11 e 0).trans h.c0, (cell_of_heap11 e 1).trans h.c1, (frozen_of_heap e 0).trans h.f0, (frozen_of_heap e 1).trans h.f1, Nat.lt_of_lt_of_le h.lt hs⟩
/-- Both stores of a record, as seen from below. -/
theorem put_below {B : Nat} {w0 w : World} (h : Below B w0 w) {b : Nat} (hb : B ≤ b) (p : Int) (u : Value) : Below B w0 ((w.setCell ⟨b, 0, none⟩ (.int .i64 p)).setCell ⟨b, 1, none⟩ u) :=
  (h.setCell (p := ⟨b, 0, none⟩) hb _).setCell (p := ⟨b, 1, none⟩) hb _
theorem put_heap (w : World) (b : Nat) (p : Int) (u : Value) {k : Nat} (hk : k ≠ b) : ((w.setCell ⟨b, 0, none⟩ (.int .i64 p)).setCell ⟨b, 1, none⟩ u).heap[k]? = w.heap[k]? := by
  rw [Below.heap_setCell _ _ _ _ hk, Below.heap_setCell _ _ _ _ hk]
theorem mark_eq (h : ByteArray) : ((rTxt ⟨h, false⟩ 4).toList == [74, 82, 78, 49]) = decide (hdW h = markS) := by
  rw [show ([74, 82, 78, 49] : List UInt8) = markS.data.toList from rfl, Lib.toList_data, Bool.eq_iff_iff, beq_iff_eq, decide_eq_true_eq]
  exact ⟨fun e => Go.WideShapes.bytes_inj e, fun e => by rw [show rTxt ⟨h, false⟩ 4 = hdW h from rfl, e]⟩
end
end Go.Proofs.YtfadglcpapiklaaGreatDoor
end
section
namespace Go.Proofs.YtfadglcpapiklaaGreatDoor
open Go.RowKit
set_option linter.unusedVariables false
set_option linter.unusedSimpArgs false

open Rc
/-- What a head is taken as. -/
def GivesP11 (w : World) (K M B : Int) (h : ByteArray) (e : Ending) (w' : World) : Prop :=
  ∃ v, e = .returned (.tuple #[.agg #[.int .i64 (if headB K M B h then hdQ h else 0), v], .int .i64 (if headB K M B h then hdC h else 0), .int .i64 (if headB K M B h then 0 else 110)]) ∧ SFam w' w.heap.size v (if headB K M B h then hdS h else []) ∧ Below w.heap.size w w'
theorem GivesP11.bad {w w' : World} {K M B : Int} {h : ByteArray} (hB : headB K M B h = false) (hb : Below w.heap.size w w') : GivesP11 w K M B h (.returned (.tuple #[.agg #[.int .i64 0, .slice none 0 0], .int .i64 0, .int .i64 110])) w' := by
  refine ⟨.slice none 0 0, ?_, ?_, hb⟩
  · rw [hB]; rfl
  · rw [hB]; exact SFam.nil _ _
theorem GivesP11.ok {w w' : World} {K M B : Int} {h : ByteArray} {v : Value} (hB : headB K M B h = true) (hf : SFam w' w.heap.size v (hdS h)) (hb : Below w.heap.size w w') : GivesP11 w K M B h (.returned (.tuple #[.agg #[.int .i64 (hdQ h), v], .int .i64 (hdC h), .int .i64 0])) w' := by
  refine ⟨v, ?_, ?_, hb⟩
  · rw [hB]; rfl
  · rw [hB]; exact hf
theorem res_parse {tm : Array Value} {W : World} {b : Nat} {q : Int} {v x y : Value} (h : RBx W b q v) (h4 : tm.getD 4 undef = .pointer (some ⟨b, 0, none⟩)) (h5 : tm.getD 5 undef = x) (h6 : tm.getD 6 undef = y) :
    (results Tryz.f96 tm).run Tryz.prog W = .ok (.tuple #[.agg #[.int .i64 q, v], x, y]) W := by
  have h4' : tm[4]?.getD undef = .pointer (some ⟨b, 0, none⟩) := by simpa using h4
  have h5' : tm[5]?.getD undef = x := by simpa using h5
  have h6' : tm[6]?.getD undef = y := by simpa using h6
  simp [results, Tryz.results96, go_sem, h4', h5', h6', h.c0, h.c1]
theorem OwnE.isSlice {α : Type} {E : Enc α} {w : World} {B : Nat} {T : TypeId} {v : Value} {l : List α} (h : OwnE E w B T v l) : ∃ a c, v = .slice a l.length c := by
  rcases h.forms with ⟨rfl, rfl⟩ | ⟨g, c, rfl, _, _⟩
  · exact ⟨_, _, rfl⟩
  · exact ⟨_, _, rfl⟩
theorem bare_ok (q : RS11) (k : Nat) : ∀ s ∈ rdS11 q k, s.d.length ≤ 140737488355328 ∧ ∀ t ∈ s.d, t.size ≤ 140737488355328 := fun s hs => by
  obtain ⟨i, _, rfl⟩ := List.mem_map.1 hs
  exact ⟨Nat.zero_le _, fun t ht => by cases ht⟩
/-- One stripe more, its data nothing. -/
theorem SFam.add {w : World} {B : Nat} {v : Value} {l : List St} (h : SFam w B v l) (n : Int) (hB : B ≤ w.heap.size) (hl : l.length ≤ 1000) :
    ∃ v' w', (Builtin.append_ #[28, 28] 28 #[v, .slice (some ⟨w.heap.size, 0, none⟩) 1 1]).run Tryz.prog (w.alloc (.cells #[.int .i64 n, .slice none 0 0] 76)) = .ok v' w' ∧ SFam w' B v' (l ++ [bare n]) ∧ Below B w w' ∧ KeptBut v w w' := by
  obtain ⟨i, hi, hz, hs, hb⟩ : ∃ i, Tryz.prog.info? 76 = some i ∧ i.zero = some (.agg #[.int .i64 0, .slice none 0 0]) ∧ i.size = 2 ∧ i.bytes = 32 := info_parts (by kernel_rfl)
  obtain ⟨v', w', h1, h2, h3, h4, h5⟩ := h.o.push (P := Tryz.prog) (S := 28) Tryz.underlying28 hi hz hs hb rfl (bare n) #[.int .i64 n, .slice none 0 0] (by show [Value.int .i64 n, .slice none 0 0] = [.int .i64 n, cell1 (.slice none 0 0)]; rw [cell1_slice]) hB (by omega) (by omega)
  refine ⟨v', w', h1, ?_, h3, h4⟩
  exact h.push (C := w.heap.size) (Nat.le_refl _) (Own.nil _ _ _) h (Nat.le_refl _) h2 h4 h5 hB
theorem step_append_run11 {P : Program} {ops : Array Oper} {o : Oper} {a : Act} {w : World} {K : Act → World → Prop} {Q : Exit → Act → World → Prop} {E : Prop} {t ty : TypeId} {v xv v' : Value} {w' : World}
    (hr : (Builtin.append_ #[t, t] ty #[v, xv]).run P w = .ok v' w') (s x : Operand) (hg : o.guard = none) (hop : o.op = Op.call { callee := Callee.builtin Builtin.append, args := #[s, x], argTypes := #[t, t] })
    (hty : o.type = ty) (hs : a.eval s = v) (hx : a.eval x = xv) (hK : K (a.put o.dst v') w') : if Region.wanted o (yielded ops a.tmps) = true then Oper.wp P o a w K Q else E := by
  have hw : Region.wanted o (yielded ops a.tmps) = true := by simp [Region.wanted, hg]
  rw [if_pos hw]
  subst hty
  unfold Oper.wp
  simp [execOp, hop, resolve, invoke, builtin, hs, hx, hr, Result.andThen]
  exact hK
/-- What holds ahead of round k. -/
structure PIn (w : World) (p x : Nat) (K M B : Int) (h : ByteArray) (k : Nat) (wr : World) (v : Value) : Prop where
  g : GBx wr p K M B
  z : RBx wr (p + 1) 0 (.slice none 0 0)
  r : RdAt wr (p + 1 + 1) (rdTo (hd3 h) k).s (rdTo (hd3 h) k).b
  o : RBx wr x (hdQ h) v
  f : SFam wr (x + 1) v (rdS11 (hd3 h) k)
  b : Below p w wr
  hx : p + 3 ≤ x
set_option maxRecDepth 100000 in
set_option maxHeartbeats 4000000 in
theorem parse_any (K M B : Int) (h : ByteArray) (w : World) (hs : h.size ≤ 140737488355328) :
    Calls Tryz.prog 96 #[.agg #[.int .i64 K, .int .i64 M, .int .i64 B], .string h] w (GivesP11 w K M B h) := by
  obtain ⟨p, hp⟩ : ∃ p, w.heap.size = p := ⟨_, rfl⟩
  have tq := mark_eq h
  go_enter Tryz.func96, Tryz.ntmps96
  go_wp2_with (fail)
  refine (new_any h _).mono ?_
  rintro e w1 ⟨rfl, rfl⟩
  have g0 := GBx.made w K M B 23
  have b0 : Below p w (w.alloc (.cells #[.int .i64 K, .int .i64 M, .int .i64 B] 23)) := (Below.refl _ _).alloc (by omega) _
  have s0 : (w.alloc (.cells #[.int .i64 K, .int .i64 M, .int .i64 B] 23)).heap.size = p + 1 := by simp [hp]
  rw [hp] at g0
  replace hp := Lib.hid hp
  generalize w.alloc (.cells #[.int .i64 K, .int .i64 M, .int .i64 B] 23) = wa at *
  have z1 := RBx.made wa 0 (.slice none 0 0) 30
  have bb : Below (p + 1) wa (wa.alloc (.cells #[.int .i64 0, .slice none 0 0] 30)) := (Below.refl _ _).alloc (by omega) _
  have s1 : (wa.alloc (.cells #[.int .i64 0, .slice none 0 0] 30)).heap.size = p + 1 + 1 := by simp [s0]
  rw [s0] at z1
  have g1 := g0.below bb (by omega)
  have b1 := b0.trans (bb.mono (by omega))
  clear s0 bb g0 b0
  generalize wa.alloc (.cells #[.int .i64 0, .slice none 0 0] 30) = wb at *
  have r2 := RdAt.made wb h 165
  have bb : Below (p + 1 + 1) wb (wb.alloc (.cells #[.string h, .bool false] 165)) := (Below.refl _ _).alloc (by omega) _
  have s2 : (wb.alloc (.cells #[.string h, .bool false] 165)).heap.size = p + 1 + 1 + 1 := by simp [s1]
  rw [s1] at r2
  have g2 := g1.below bb (by omega)
  have z2 := z1.below bb (by omega)
  have b2 := b1.trans (bb.mono (by omega))
  clear bb g1 z1 b1
  go_wp2_with (fail)
  generalize wb.alloc (.cells #[.string h, .bool false] 165) = w2 at *
  clear s1
  refine (rdtxt_q (p + 1 + 1) ⟨h, false⟩ 4 _ r2 hs).mono ?_
  rintro e w3 ⟨rfl, r3⟩
  have g3 := g2.rd r3 (by omega)
  have z3 := z2.rd r3 (by omega)
  have b3 := b2.trans (r3.keep p (by omega) (by omega))
  have R3 := r3.r
  have s3 := r3.size
  clear g2 z2 b2 r2 r3
  rw [s2] at s3
  clear s2
  have hq1 : (hd1 h).s.size ≤ 140737488355328 := Nat.le_trans (rTxtR_size _ _) hs
  change RdAt w3 (p + 1 + 1) (hd1 h).s (hd1 h).b at R3
  by_cases hm : hdW h = markS
  · rw [decide_eq_true hm] at tq
    have tq2 : ((rTxt ⟨h, false⟩ 4).toList != [74, 82, 78, 49]) = false := by rw [bne, tq]; rfl
    go_wp2_with (fail)
    refine (rdnum_q (p + 1 + 1) (hd1 h) 6 w3 R3 hq1).mono ?_
    rintro e w4 ⟨rfl, r4⟩
    have g4 := g3.rd r4 (by omega)
    have z4 := z3.rd r4 (by omega)
    have b4 := b3.trans (r4.keep p (by omega) (by omega))
    have R4 := r4.r
    have s4 := r4.size
    have hq2 : (hd2 h).s.size ≤ 140737488355328 := Nat.le_trans (rNumR_size _ _) hq1
    change RdAt w4 (p + 1 + 1) (hd2 h).s (hd2 h).b at R4
    rw [show ((rNum (hd1 h) 6 : Nat) : Int) = hdQ h from rfl]
    clear g3 z3 b3 R3 r4 tq tq2
    obtain ⟨x, hx⟩ : ∃ x, w4.heap.size = x := ⟨_, rfl⟩
    have hx3 : p + 3 ≤ x := by omega
    have x5 := RBx.made w4 (hdQ h) (.slice none 0 0) 30
    have bb : Below x w4 (w4.alloc (.cells #[.int .i64 (hdQ h), .slice none 0 0] 30)) := (Below.refl _ _).alloc (by omega) _
    have s5 : (w4.alloc (.cells #[.int .i64 (hdQ h), .slice none 0 0] 30)).heap.size = x + 1 := by simp [hx]
    rw [hx] at x5
    have g5 := g4.below bb (by omega)
    have z5 := z4.below bb (by omega)
    have R5 := R4.below bb (by omega)
    have b5 := b4.trans (bb.mono (by omega))
    clear g4 z4 b4 R4 bb
    replace hx := Lib.hid hx
    go_wp2_with (fail)
    rw [hx.out]
    generalize w4.alloc (.cells #[.int .i64 (hdQ h), .slice none 0 0] 30) = w5 at *
    clear hx s4 s3 w4 w3 w2 wa wb
    refine (rdnum_q (p + 1 + 1) (hd2 h) 1 w5 R5 hq2).mono ?_
    rintro e w6 ⟨rfl, r6⟩
    have hq3 : (hd3 h).s.size ≤ 140737488355328 := Nat.le_trans (rNumR_size _ _) hq2
    have hI0 : Hid (PIn w p x K M B h 0 w6 (.slice none 0 0)) := Lib.hid ⟨g5.rd r6 (by omega), z5.rd r6 (by omega), r6.r, x5.rd r6 (by omega), SFam.nil _ _, b5.trans (r6.keep p (by omega) (by omega)), hx3⟩
    have hqk : ∀ k, (rdTo (hd3 h) k).s.size ≤ 140737488355328 := fun k => Nat.le_trans (rdTo_size _ k) hq3
    have hN7 := hdK_lt h
    rw [show rNum (hd2 h) 1 = hdK h from rfl]
    obtain ⟨N, hN⟩ : ∃ N, hdK h = N := ⟨_, rfl⟩
    rw [hN] at hN7 ⊢
    replace hN := Lib.hid hN
    clear g5 z5 R5 b5 r6 hq3 x5 s5 hq1 hq2
    go_wp2_with (fail)
    go_loopw [21] (fun t wr => ∃ k : Nat, k ≤ N ∧ t = .int .i64 (k : Int) ∧ ∃ v, PIn w p x K M B h k wr v) (fun t _ => N - (RowKit.intOf t).toNat)
    case atStart => exact ⟨0, by omega, rfl, _, hI0.out⟩
    case round =>
      obtain ⟨k, hk, rfl, v, hI⟩ := hrel
      rename World => wr
      clear hI0
      obtain ⟨g0, z0, r0, o0, f0, b0, _⟩ := hI
      have hql := hqk k
      have hlen := rdS_len (hd3 h) k
      obtain ⟨va, vc, ev⟩ := f0.o.isSlice
      subst ev
      by_cases hlt : k < N
      · have y1 : (k : Int) < (N : Int) := by omega
        have hS := Lib.hid (rdS_succ (hd3 h) k)
        have hR : Hid (rdTo (hd3 h) (k + 1) = rNumR (rdTo (hd3 h) k) 1) := Lib.hid rfl
        generalize rdTo (hd3 h) k = q at *
        generalize rdS11 (hd3 h) k = l at *
        have g1 : GBx wr.drew p K M B := g0.heap rfl (Nat.le_refl _)
        have z1 : RBx wr.drew (p + 1) 0 (.slice none 0 0) := z0.heap rfl (Nat.le_refl _)
        have r1 : RdAt wr.drew (p + 1 + 1) q.s q.b := r0.hp rfl (Nat.le_refl _)
        have o1 : RBx wr.drew x (hdQ h) (.slice va l.length vc) := o0.heap rfl (Nat.le_refl _)
        have f1 : SFam wr.drew (x + 1) (.slice va l.length vc) l := f0.heap fun _ _ _ => rfl
        have b1 : Below p w wr.drew := b0.trans ⟨rfl, rfl, rfl, Nat.le_refl _, fun _ _ => rfl⟩
        have hpx := o1.lt
        clear g0 z0 r0 o0 f0 b0
        have c1 := o1.c1
        replace hlen := Lib.hid hlen
        go_wp2_with (fail)
        go_region_law (first
          | (refine step_append_run11 hap _ _ rfl rfl rfl (by simp [Act.eval, Act.put]) (by simp [Act.eval, Act.put]) ?_)
          | (go_simp; go_at_call 128
             refine (rdnum_q (p + 1 + 1) q 1 _ r1 hql).mono ?_
             rintro e w6 ⟨rfl, r6⟩
             have o6 := o1.rd r6 (by omega)
             have f6 : SFam w6 (x + 1) (.slice va l.length vc) l := f1.heap fun j h1 h2 => r6.oth j h2 (by omega)
             obtain ⟨v', w7, hap, f7, b7, k7⟩ := f6.add ((rNum q 1 : Nat) : Int) (by have := r6.size; have := o6.lt; omega) (by rw [hlen.out]; omega)
             obtain ⟨va', vc', ev⟩ := f7.o.isSlice
             rw [List.length_append, List.length_singleton] at ev
             subst ev
             have c6 := o6.c1
             have ca := cell_alloc_l (.cells #[.int .i64 ((rNum q 1 : Nat) : Int), .slice none 0 0] 76) c6
             have o7 : RBx w7 x (hdQ h) (.slice va l.length vc) := o6.heap (k7 x o6.lt (fun e => by have := (f6.old _ (.inl rfl) x e).1; omega)) b7.size
             have c7 := o7.c1
             have d7 := o7.f1
             replace o7 := Lib.hid o7
             replace f7 := Lib.hid f7
             replace o6 := Lib.hid o6
             replace f6 := Lib.hid f6))
        all_goals
          go_wp2_with (fail)
          go_roundw
          case rel =>
            have hs7 := b7.size
            have hs6 := r6.size
            have hx6 := o6.out.lt
            have eh : ∀ j, j < w6.heap.size → j < x → (w7.setCell ⟨x, 1, none⟩ (.slice va' (l.length + 1) vc')).heap[j]? = w6.heap[j]? := fun j h1 h2 => by
              rw [Below.heap_setCell _ _ _ _ (by show j ≠ x; omega)]
              exact k7 j h1 (fun e => by have := (f6.out.old _ (.inl rfl) j e).1; omega)
            refine ⟨k + 1, by omega, by go_num, .slice va' (l.length + 1) vc', ?_⟩
            refine ⟨(g1.rd r6 (by omega)).heap (eh p (by omega) (by omega)) (by simpa using hs7), (z1.rd r6 (by omega)).heap (eh (p + 1) (by omega) (by omega)) (by simpa using hs7), ?_, o7.out.set1 _, ?_, ?_, hx3⟩
            · rw [hR.out]; exact r6.r.hp (eh (p + 1 + 1) (by omega) (by omega)) (by simpa using hs7)
            · rw [hS.out]
              exact f7.out.heap fun j h1 h2 => Below.heap_setCell _ _ _ _ (by show j ≠ x; omega)
            · exact ((b1.trans (r6.keep p (by omega) (by have := g1.lt; omega))).trans (b7.mono (by omega))).setCell (p := ⟨x, 1, none⟩) (by show p ≤ x; omega) _
          case measure => simp [RowKit.intOf]; omega
      · obtain rfl : k = N := by omega
        have y1 : ¬ ((k : Int) < (k : Int)) := by omega
        have hhC : Hid (((rNum (rdTo (hd3 h) k) 4 : Nat) : Int) = hdC h) := Lib.hid (by rw [hdC, hN.out])
        have hhE : Hid (rNumR (rdTo (hd3 h) k) 4 = hdE h) := Lib.hid (by rw [hdE, hN.out])
        have hhS : Hid (rdS11 (hd3 h) k = hdS h) := Lib.hid (by rw [hdS, hN.out])
        have hok := Lib.hid (bare_ok (hd3 h) k)
        replace hlen := Lib.hid hlen
        go_wp2_with (fail)
        refine (rdnum_q (p + 1 + 1) (rdTo (hd3 h) k) 4 wr r0 hql).mono ?_
        rintro e w6 ⟨rfl, r6⟩
        rw [hhC.out]
        have hqe : (hdE h).s.size ≤ 140737488355328 := by rw [← hhE.out]; exact Nat.le_trans (rNumR_size _ _) hql
        have g6 := g0.rd r6 (by omega)
        have z6 := z0.rd r6 (by omega)
        have o6 := o0.rd r6 (by omega)
        have f6 : SFam w6 (x + 1) (.slice va (rdS11 (hd3 h) k).length vc) (rdS11 (hd3 h) k) := f0.heap fun j h1 h2 => r6.oth j h2 (by omega)
        have b6 := b0.trans (r6.keep p (by omega) (by have := g0.lt; omega))
        have R6 := r6.r
        rw [hhE.out] at R6
        have f6' := f6.reads hok.out
        rw [hhS.out] at f6 f6' o6
        have hB : Hid (headB K M B h = ((!(hdE h).b && zeroB (hdE h).s) && ordB K M B (hdQ h) (hdS h))) := Lib.hid (by rw [headB, decide_eq_true hm]; rfl)
        have hl := hlen.out
        rw [hhS.out] at hl
        have hll : (hdS h).length ≤ 140737488355328 := by omega
        have hgo : Hid (∀ v w', SFam w' (x + 1) v (hdS h) → Below p w w' → headB K M B h = true → GivesP11 w K M B h (.returned (.tuple #[.agg #[.int .i64 (hdQ h), v], .int .i64 (hdC h), .int .i64 0])) w') := Lib.hid fun v w' hf hb ht => GivesP11.ok ht (hf.mono (by rw [hp.out]; omega)) (by rw [hp.out]; exact hb)
        generalize hdS h = l at *
        have hO := fun W (hw : SReads W (.slice va l.length vc) l) => ordered_any K M B (hdQ h) (.slice va l.length vc) l W hw hll
        clear g0 z0 o0 f0 b0 r0 r6 hlen hok hql hqk hhE hhC hhS wr hl hll
        go_wp2_with (fail)
        refine (ends_any (p + 1 + 1) (hdE h).s (hdE h).b w6 R6 hqe).mono ?_
        rintro e w7 ⟨rfl, n, rfl⟩
        have g7 : GBx (w6.drewN n) p K M B := g6.heap rfl (Nat.le_refl _)
        have z7 : RBx (w6.drewN n) (p + 1) 0 (.slice none 0 0) := z6.heap rfl (Nat.le_refl _)
        have o7 : RBx (w6.drewN n) x (hdQ h) (.slice va l.length vc) := o6.heap rfl (Nat.le_refl _)
        have f7 : SFam (w6.drewN n) (x + 1) (.slice va l.length vc) l := f6.heap fun _ _ _ => rfl
        have F7 : SReads (w6.drewN n) (.slice va l.length vc) l := f6'.below (drew_below w6 n)
        have b7 : Below p w (w6.drewN n) := b6.trans ((drew_below w6 n).mono (by have := g6.lt; omega))
        have hx7 := o7.lt
        clear g6 z6 o6 f6 f6' b6 R6 hqe
        generalize w6.drewN n = w7 at *
        cases he : (!(hdE h).b && zeroB (hdE h).s) with
        | false =>
          rw [he] at hB
          have e0 := z7.c0
          have e1 := z7.c1
          have e2 := z7.f0
          have e3 := z7.f1
          clear he
          go_wp2_with (fail)
          refine bodyPost_ret (res_parse (z7.put 0 (.slice none 0 0)) rfl rfl rfl) rfl ?_
          exact GivesP11.bad hB.out (by rw [hp.out]; exact put_below b7 (by omega) _ _)
        | true =>
          rw [he] at hB
          have e0 := g7.c0
          have e1 := g7.c1
          have e2 := g7.c2
          have e3 := o7.c0
          have e4 := o7.c1
          clear he
          go_wp2_with (fail)
          refine (hO _ F7).mono ?_
          rintro e w8 ⟨rfl, b811⟩
          have z8 := z7.below b811 z7.lt
          have o8 := o7.below b811 o7.lt
          have f8 := f7.after b811
          have b9 := b7.trans (b811.mono (by omega))
          have hx8 := o8.lt
          clear g7 z7 o7 f7 b7 b811 F7 e0 e1 e2 e3 e4 hO hx7
          have e0 := z8.c0
          have e1 := z8.c1
          have e2 := z8.f0
          have e3 := z8.f1
          cases ho : ordB K M B (hdQ h) l with
          | false =>
            rw [ho] at hB
            clear ho
            go_wp2_with (fail)
            refine bodyPost_ret (res_parse (z8.put 0 (.slice none 0 0)) rfl rfl rfl) rfl ?_
            exact GivesP11.bad hB.out (by rw [hp.out]; exact put_below b9 (by omega) _ _)
          | true =>
            rw [ho] at hB
            have e4 := o8.c0
            have e5 := o8.c1
            clear ho
            go_wp2_with (fail)
            refine bodyPost_ret (res_parse (z8.put (hdQ h) (.slice va l.length vc)) rfl rfl rfl) rfl ?_
            refine hgo.out _ _ (f8.heap fun j h1 h2 => put_heap _ _ _ _ (by omega)) (put_below b9 (by omega) _ _) hB.out
  · have tq2 : ((rTxt ⟨h, false⟩ 4).toList != [74, 82, 78, 49]) = true := by rw [bne, tq, decide_eq_false hm]; rfl
    rw [decide_eq_false hm] at tq
    have e0 := z3.c0
    have e1 := z3.c1
    have e2 := z3.f0
    have e3 := z3.f1
    have hB := Lib.hid (headB_mark (K := K) (M := M) (B := B) hm)
    clear hm
    go_wp2_with (fail)
    refine bodyPost_ret (res_parse (z3.put 0 (.slice none 0 0)) rfl rfl rfl) rfl ?_
    exact GivesP11.bad hB.out (by rw [hp.out]; exact put_below b3 (by omega) _ _)
end Go.Proofs.YtfadglcpapiklaaGreatDoor
end
section
namespace Go.Proofs.YtfadglcpapiklaaGreatDoor
open Go.RowKit
set_option linter.unusedVariables false
set_option linter.unusedSimpArgs false

open Rc
def nts : ByteArray := lineOf (List.replicate 120 0)
theorem nts_size : nts.size = 120 := by unfold nts; rw [lineOf_size]; simp
/-- What the document takes a head as. -/
structure GR (w : World) (K M B : Int) (h : ByteArray) (q : Int) (v : Value) (c : Int) (l : List St) (w' : World) : Prop where
  t : headB K M B h = true → q = hdQ h ∧ c = hdC h ∧ l.map St.n = (hdS h).map St.n ∧ ∀ s ∈ l, (s.d.length : Int) = K
  f : SFam w' w.heap.size v l
  z : ∀ s ∈ l, s.d.length ≤ 9 ∧ ∀ t ∈ s.d, t.size = 120
  n : l.length ≤ 16
  b : Below w.heap.size w w'
def GivesR11 (w : World) (K M B : Int) (h : ByteArray) (e : Ending) (w' : World) : Prop :=
  ∃ q v c l, e = .returned (.tuple #[.agg #[.int .i64 q, v], .int .i64 c, .bool (headB K M B h)]) ∧ GR w K M B h q v c l w'
/-- The stripes of k rounds. -/
structure Lk (q : RS11) (m k : Nat) (l : List St) : Prop where
  n : l.map St.n = (rdS11 q k).map St.n
  d : ∀ s ∈ l, s.d = List.replicate m nts
theorem Lk.len {q : RS11} {m k : Nat} {l : List St} (h : Lk q m k l) : l.length = k := by have := congrArg List.length h.n; simpa [rdS_len] using this
theorem Lk.z {q : RS11} {m k : Nat} {l : List St} (h : Lk q m k l) (hm : m ≤ 9) : ∀ s ∈ l, s.d.length ≤ 9 ∧ ∀ t ∈ s.d, t.size = 120 := fun s hs => by
  rw [h.d s hs]
  exact ⟨by simpa using hm, fun t ht => by rw [(List.mem_replicate.1 ht).2]; exact nts_size⟩
theorem Lk.push {q : RS11} {m k : Nat} {l : List St} (h : Lk q m k l) (v : Value) : Lk q m (k + 1) (l ++ [⟨((rNum (rdTo q k) 1 : Nat) : Int), List.replicate m nts, v⟩]) := by
  refine ⟨by rw [rdS_succ, List.map_append, List.map_append, h.n]; rfl, fun s hs => ?_⟩
  rcases List.mem_append.1 hs with hs | hs
  · exact h.d s hs
  · rw [List.mem_singleton.1 hs]
theorem read_head {K M B : Int} {h : ByteArray} {N m k : Nat} {l : List St} (hN : hdK h = N) (hm : min K.toNat 9 = m) (hk : k ≤ N) (hk6 : k ≤ 16) (hnot : ¬ (k < N ∧ k < 16)) (L : Lk (hd3 h) m k l) :
    headB K M B h = (decide (hdW h = markS) && (decide (N ≤ 16) && ((!(rNumR (rdTo (hd3 h) k) 4).b && zeroB (rNumR (rdTo (hd3 h) k) 4).s) && rightB K M B (hdQ h) l))) := by
  by_cases h16 : N ≤ 16
  · obtain rfl : k = N := by omega
    have e1 : rNumR (rdTo (hd3 h) k) 4 = hdE h := by rw [hdE, hN]
    have e2 : ordB K M B (hdQ h) l = ordB K M B (hdQ h) (hdS h) := ordB_nums (by rw [L.n, hdS, hN])
    have e3 : rightB K M B (hdQ h) l = ordB K M B (hdQ h) (hdS h) := by
      unfold rightB
      rw [e2]
      cases ho : ordB K M B (hdQ h) (hdS h) with
      | false => rfl
      | true =>
        rw [Bool.true_and, List.all_eq_true]
        intro s hs
        have hg : gR K M B = true := by unfold ordB at ho; simp only [Bool.and_eq_true] at ho; exact ho.1
        have hK := gR_true hg
        unfold stB txtB
        rw [L.d s hs, List.length_replicate]
        simp only [Bool.and_eq_true, beq_iff_eq, List.all_eq_true]
        refine ⟨by omega, fun t ht => ?_⟩
        rw [(List.mem_replicate.1 ht).2, nts_size]; rfl
    rw [e1, e3, decide_eq_true h16, Bool.true_and]
    rfl
  · rw [headB_many (by omega), decide_eq_false h16]; simp
theorem read_true {K M B : Int} {h : ByteArray} {N m k : Nat} {l : List St} (hN : hdK h = N) (hm : min K.toNat 9 = m) (hk : k ≤ N) (hk6 : k ≤ 16) (hnot : ¬ (k < N ∧ k < 16)) (L : Lk (hd3 h) m k l) (ht : headB K M B h = true) :
    ((rNum (rdTo (hd3 h) k) 4 : Nat) : Int) = hdC h ∧ l.map St.n = (hdS h).map St.n ∧ ∀ s ∈ l, (s.d.length : Int) = K := by
  have h16 : N ≤ 16 := by
    rcases Nat.lt_or_ge 16 N with h1 | h1
    · rw [headB_many (by omega)] at ht; cases ht
    · exact h1
  obtain rfl : k = N := by omega
  refine ⟨by rw [hdC, hN], by rw [L.n, hdS, hN], fun s hs => ?_⟩
  have hg : gR K M B = true := by unfold headB ordB at ht; simp only [Bool.and_eq_true] at ht; exact ht.2.2.1
  have hK := gR_true hg
  rw [L.d s hs, List.length_replicate]; omega
/-- What holds ahead of a round. -/
structure DIn (w : World) (p x : Nat) (K M B : Int) (h : ByteArray) (m k : Nat) (wr : World) (v : Value) (l : List St) : Prop where
  g : GBx wr p K M B
  z : RBx wr (p + 1) 0 (.slice none 0 0)
  r : RdAt wr (p + 1 + 1) (rdTo (hd3 h) k).s (rdTo (hd3 h) k).b
  o : RBx wr x (hdQ h) v
  f : SFam wr (x + 1) v l
  l : Lk (hd3 h) m k l
  b : Below p w wr
/-- And ahead of a round within. -/
structure EIn (w : World) (p x y : Nat) (K M B : Int) (q : RS11) (hq n : Int) (wr : World) (v : Value) (l : List St) (j : Nat) (u : Value) : Prop where
  g : GBx wr p K M B
  z : RBx wr (p + 1) 0 (.slice none 0 0)
  r : RdAt wr (p + 1 + 1) q.s q.b
  o : RBx wr x hq v
  f : SFam wr (x + 1) v l
  s : RBx wr y n u
  d : Own wr (y + 1) 9 u ((List.replicate j nts).map .string)
  b : Below p w wr
end Go.Proofs.YtfadglcpapiklaaGreatDoor
end
section
namespace Go.Proofs.YtfadglcpapiklaaGreatDoor
section
open Go.RowKit
set_option linter.unusedVariables false
set_option linter.unusedSimpArgs false

open Rc
def GivesH (w : World) (K M B : Int) (h : ByteArray) (e : Ending) (w' : World) : Prop :=
  e = .returned (.tuple #[.int .i64 (if headB K M B h then hdQ h else 0), .int .i64 (if headB K M B h then ((hdS h).length : Int) * K else 0), .int .i64 (if headB K M B h then 0 else 110)]) ∧ Below w.heap.size w w'
theorem headB_K {K M B : Int} {h : ByteArray} (ht : headB K M B h = true) : (1 ≤ K ∧ K ≤ 4) ∧ 1 ≤ (hdS h).length ∧ (hdS h).length ≤ 16 := by
  unfold headB ordB at ht
  simp only [Bool.and_eq_true, decide_eq_true_eq] at ht
  have hK := gR_true ht.2.2.1
  exact ⟨⟨hK.1, hK.2.1⟩, ht.2.2.2.2.1⟩
set_option maxRecDepth 100000 in
set_option maxHeartbeats 4000000 in
theorem head11_any (K M B : Int) (h : ByteArray) (w : World) (hs : h.size ≤ 140737488355328) :
    Calls Tryz.prog 95 #[.agg #[.int .i64 K, .int .i64 M, .int .i64 B], .string h] w (GivesH w K M B h) := by
  obtain ⟨p, hp⟩ : ∃ p, w.heap.size = p := ⟨_, rfl⟩
  have hfin : Hid (∀ w', Below p w w' → GivesH w K M B h (.returned (.tuple #[.int .i64 (if headB K M B h then hdQ h else 0), .int .i64 (if headB K M B h then ((hdS h).length : Int) * K else 0), .int .i64 (if headB K M B h then 0 else 110)])) w') := Lib.hid fun w' hb => ⟨rfl, by rw [hp]; exact hb⟩
  have g0 := GBx.made w K M B 23
  have b0 : Below p w (w.alloc (.cells #[.int .i64 K, .int .i64 M, .int .i64 B] 23)) := (Below.refl _ _).alloc (by omega) _
  rw [hp] at g0
  have e0 := g0.c0
  have e1 := g0.c1
  have e2 := g0.c2
  go_enter Tryz.func95, Tryz.ntmps95
  go_wp2_with (fail)
  clear e0 e1 e2
  replace hp := Lib.hid hp
  refine (parse_any K M B h _ hs).mono ?_
  rintro e w1 ⟨v, rfl, f1, b1⟩
  have g1 := g0.below b1 g0.lt
  have b2 := b0.trans (b1.mono (by have := g0.lt; omega))
  clear g0 b0 b1
  cases ht : headB K M B h with
  | false =>
    rw [ht] at hfin f1
    simp only [Bool.false_eq_true, if_false] at hfin f1 ⊢
    obtain ⟨va, vc, rfl⟩ := f1.o.isSlice
    go_wp2_with (fail)
    refine bodyPost_ret (results_tmp3 rfl _ _ _) rfl ?_
    exact hfin.out _ (b2.trans ((Below.refl _ _).alloc (by have := g1.lt; omega) _))
  | true =>
    rw [ht] at hfin f1
    have hk := headB_K ht
    simp only [if_true] at hfin f1 ⊢
    obtain ⟨va, vc, rfl⟩ := f1.o.isSlice
    have q1 : 1 ≤ ((hdS h).length : Int) := by omega
    have q2 : ((hdS h).length : Int) ≤ 16 := by omega
    have q0 : 1 ≤ ((hdS h).length : Int) * K := by
      have := Int.mul_le_mul q1 hk.1.1 (by omega) (by omega); omega
    have q3 : ((hdS h).length : Int) * K ≤ 64 := by
      have := Int.mul_le_mul q2 hk.1.2 (by omega) (by omega); omega
    clear hk ht f1
    generalize (hdS h).length = n at *
    have X := RBx.made w1 (hdQ h) (.slice va n vc) 30
    have bb : Below w1.heap.size w1 (w1.alloc (.cells #[.int .i64 (hdQ h), .slice va n vc] 30)) := (Below.refl _ _).alloc (Nat.le_refl _) _
    have g2 := g1.below bb g1.lt
    have b3 := b2.trans (bb.mono (by have := g1.lt; omega))
    clear g1 b2 bb
    have e0 := g2.c0
    have e3 := X.c0
    have e4 := X.c1
    have w1' : IntKind.i64.wrap ((n : Int) * K) = (n : Int) * K := IntWalk.i64_in _ (by omega)
    go_wp2_with (fail)
    go_quiet (fail)
    go_wp2_with (fail)
    refine bodyPost_ret (results_tmp3 rfl _ _ _) rfl ?_
    exact hfin.out _ (b3.trans ⟨rfl, rfl, rfl, Nat.le_refl _, fun _ _ => rfl⟩)
end
section
open Go.RowKit
set_option linter.unusedVariables false
set_option linter.unusedSimpArgs false

open Rc
def chunk (k : Nat) (b : List ByteArray) (i : Nat) : List ByteArray := (b.drop (i * k)).take k
theorem flat_chunks (k : Nat) : ∀ (n : Nat) (b : List ByteArray), b.length = n * k → (List.range n).flatMap (chunk k b) = b
  | 0, b, h => by
    rw [Nat.zero_mul] at h
    rw [List.eq_nil_of_length_eq_zero h]; rfl
  | n + 1, b, h => by
    rw [List.range_succ_eq_map, List.flatMap_cons, List.flatMap_map]
    have e : (fun i => chunk k b (i + 1)) = chunk k (b.drop k) := by
      funext i; unfold chunk; rw [List.drop_drop, show (i + 1) * k = k + i * k by rw [Nat.succ_mul]; omega]
    have ih := flat_chunks k n (b.drop k) (by rw [List.length_drop, h, Nat.succ_mul]; omega)
    rw [show (fun a => chunk k b a.succ) = (fun i => chunk k b (i + 1)) from rfl, e, ih]
    unfold chunk
    rw [Nat.zero_mul, List.drop_zero, List.take_append_drop]
def pr (s : St) : Int × List ByteArray := (s.n, s.d)
theorem allT_len {l : List St} {k : Nat} (h : ∀ s ∈ l, s.d.length = k) : (allT l).length = l.length * k := by
  induction l with
  | nil => simp [allT]
  | cons s l ih =>
    have e : allT (s :: l) = s.d ++ allT l := rfl
    rw [e, List.length_append, h s (List.mem_cons_self ..), ih fun t ht => h t (List.mem_cons_of_mem _ ht), List.length_cons, Nat.succ_mul]; omega
theorem allT_chunk {l : List St} {k : Nat} (h : ∀ s ∈ l, s.d.length = k) {i : Nat} (hi : i < l.length) : chunk k (allT l) i = l[i].d := by
  induction l generalizing i with
  | nil => exact absurd hi (Nat.not_lt_zero _)
  | cons s l ih =>
    have e : allT (s :: l) = s.d ++ allT l := rfl
    have hk := h s (List.mem_cons_self ..)
    unfold chunk
    cases i with
    | zero => rw [Nat.zero_mul, List.drop_zero, e, List.take_append_of_le_length (by omega), List.take_of_length_le (by omega)]; rfl
    | succ i =>
      rw [e, List.drop_append, List.drop_of_length_le (by rw [Nat.succ_mul]; omega), List.nil_append, show (i + 1) * k - s.d.length = i * k by rw [Nat.succ_mul]; omega]
      exact ih (fun t ht => h t (List.mem_cons_of_mem _ ht)) (by simpa using hi)
/-- Whether they are taken; what as. -/
def takeB (K M B : Int) (h : ByteArray) (b : List ByteArray) : Bool := headB K M B h && (decide ((b.length : Int) = ((hdS h).length : Int) * K) && (txtB b && decide (((sumT b : Nat) : Int) = hdC h)))
def takeL (K : Int) (h : ByteArray) (b : List ByteArray) : List (Int × List ByteArray) := (List.range (hdS h).length).map fun i => (((hdS h).map St.n).getD i 0, chunk K.toNat b i)
theorem take_l {K : Int} {h : ByteArray} {b : List ByteArray} {l : List St} (hn : l.map St.n = (hdS h).map St.n) (hk : ∀ s ∈ l, s.d.length = K.toNat) (ha : allT l = b) : l.map pr = takeL K h b := by
  have hl : l.length = (hdS h).length := by have := congrArg List.length hn; simpa using this
  unfold takeL
  rw [← hn, ← ha]
  apply List.ext_getElem (by simp [hl])
  intro i h1 h2
  have hi : i < l.length := by simpa using h1
  simp only [List.getElem_map, List.getElem_range]
  rw [List.getD_eq_getElem?_getD, List.getElem?_eq_getElem (by simpa using hi), Option.getD_some, List.getElem_map, allT_chunk hk hi]
  rfl
theorem txtB_iff (d : List ByteArray) : txtB d = true ↔ ∀ t ∈ d, t.size = 120 := by
  unfold txtB
  rw [List.all_eq_true]
  exact ⟨fun h t ht => by have := h t ht; rw [beq_iff_eq] at this; omega, fun h t ht => by rw [beq_iff_eq, h t ht]; rfl⟩
theorem all_st {K : Int} {l : List St} (h0 : 0 ≤ K) (hk : ∀ s ∈ l, s.d.length = K.toNat) : l.all (stB K) = txtB (allT l) := by
  rw [Bool.eq_iff_iff, List.all_eq_true, txtB_iff]
  constructor
  · intro h t ht
    obtain ⟨s, hs, ht⟩ := List.mem_flatMap.1 ht
    have := h s hs
    unfold stB at this
    simp only [Bool.and_eq_true] at this
    exact (txtB_iff _).1 this.2 t ht
  · intro h s hs
    unfold stB
    simp only [Bool.and_eq_true, beq_iff_eq]
    exact ⟨by rw [hk s hs]; omega, (txtB_iff _).2 fun t ht => h t (List.mem_flatMap.2 ⟨s, hs, ht⟩)⟩
/-- One text is another one. -/
theorem allT_set {l : List St} {k : Nat} (h : ∀ s ∈ l, s.d.length = k) {i j : Nat} (hi : i < l.length) (hj : j < k) (t : ByteArray) : allT (l.set i { l[i] with d := l[i].d.set j t }) = (allT l).set (i * k + j) t := by
  induction l generalizing i with
  | nil => exact absurd hi (Nat.not_lt_zero _)
  | cons s l ih =>
    have e : allT (s :: l) = s.d ++ allT l := rfl
    have hk := h s (List.mem_cons_self ..)
    cases i with
    | zero =>
      rw [Nat.zero_mul, Nat.zero_add, List.set_cons_zero, e, List.set_append_left _ _ (by omega)]; rfl
    | succ i =>
      rw [List.set_cons_succ, e, List.set_append_right _ _ (by rw [Nat.succ_mul]; omega), show (i + 1) * k + j - s.d.length = i * k + j by rw [Nat.succ_mul]; omega, ← ih (fun t ht => h t (List.mem_cons_of_mem _ ht)) (by simpa using hi)]
      rfl
theorem upto_set (b z : List ByteArray) {i : Nat} (hi : i < b.length) (hz : i < z.length) : (b.take i ++ z.drop i).set i b[i] = b.take (i + 1) ++ z.drop (i + 1) := by
  rw [List.set_append_right _ _ (by simp; omega), List.length_take, Nat.min_eq_left (by omega), Nat.sub_self, List.drop_eq_getElem_cons hz, List.set_cons_zero, List.take_succ_eq_append_getElem hi, List.append_assoc]; rfl
def GivesTk (w : World) (K M B : Int) (h : ByteArray) (b : List ByteArray) (e : Ending) (w' : World) : Prop :=
  ∃ v l, e = .returned (.tuple #[.agg #[.int .i64 (if takeB K M B h b then hdQ h else 0), v], .int .i64 (if takeB K M B h b then 0 else 110)]) ∧ SFam w' w.heap.size v l ∧ l.map pr = (if takeB K M B h b then takeL K h b else []) ∧ Below w.heap.size w w'
theorem GivesTk.bad {w w' : World} {K M B : Int} {h : ByteArray} {b : List ByteArray} (hB : takeB K M B h b = false) (hb : Below w.heap.size w w') : GivesTk w K M B h b (.returned (.tuple #[.agg #[.int .i64 0, .slice none 0 0], .int .i64 110])) w' := by
  refine ⟨.slice none 0 0, [], ?_, SFam.nil _ _, ?_, hb⟩
  · rw [hB]; rfl
  · rw [hB]; rfl
theorem GivesTk.ok {w w' : World} {K M B : Int} {h : ByteArray} {b : List ByteArray} {v : Value} {l : List St} (hB : takeB K M B h b = true) (hf : SFam w' w.heap.size v l) (hl : l.map pr = takeL K h b) (hb : Below w.heap.size w w') : GivesTk w K M B h b (.returned (.tuple #[.agg #[.int .i64 (hdQ h), v], .int .i64 0])) w' := by
  refine ⟨v, l, ?_, hf, ?_, hb⟩
  · rw [hB]; rfl
  · rw [hB]; exact hl
/-- A clone of texts. -/
theorem cloneT_any (v : Value) (d : List ByteArray) (w : World) (h : Reads w v (d.map .string)) (hn : d.length ≤ 1000) :
    Calls Tryz.prog 97 #[v] w fun e w' => ∃ u, e = .returned u ∧ Own w' w.heap.size 9 u (d.map .string) ∧ Below w.heap.size w w' := by
  rcases h with ⟨⟨a, c, rfl⟩, h0⟩ | ⟨b, off, cap, rfl, hb, hc⟩
  · rw [h0]
    cases a with
    | none => exact (Tryz.slices_Clone_string_nil 0 c w).mono fun e w' ⟨h1, h2⟩ => ⟨_, h1, by subst h2; exact ⟨World.ownsRow_nil _ _ _ _⟩, by subst h2; exact Below.refl _ _⟩
    | some a => exact (Tryz.slices_Clone_string_zero a c w).mono fun e w' ⟨u, h1, h2, _, h3⟩ => ⟨u, h1, ⟨h2⟩, h3⟩
  · rw [List.length_map] at hc ⊢
    refine (Tryz.slices_Clone_string b off d.length cap d w (Nat.le_refl _) (by omega) fun j hj => ?_).mono fun e w' ⟨u, h1, h2, _, h3⟩ => ⟨u, h1, ⟨?_⟩, h3⟩
    · rw [hc j hj]
      simp [List.getD_eq_getElem?_getD, List.getElem?_eq_getElem hj]
    · rw [List.take_of_length_le (Nat.le_refl _)] at h2
      rw [List.length_map]; exact h2
end
end Go.Proofs.YtfadglcpapiklaaGreatDoor
end
section
namespace Go.Proofs.YtfadglcpapiklaaGreatDoor
section
open Go.RowKit
set_option linter.unusedVariables false
set_option linter.unusedSimpArgs false

open Rc
theorem res_take {tm : Array Value} {W : World} {b : Nat} {q : Int} {v x : Value} (h : RBx W b q v) (h4 : tm.getD 6 undef = .pointer (some ⟨b, 0, none⟩)) (h5 : tm.getD 7 undef = x) :
    (results Tryz.f60 tm).run Tryz.prog W = .ok (.tuple #[.agg #[.int .i64 q, v], x]) W := by
  have h4' : tm[6]?.getD undef = .pointer (some ⟨b, 0, none⟩) := by simpa using h4
  have h5' : tm[7]?.getD undef = x := by simpa using h5
  simp [results, Tryz.results60, go_sem, h4', h5', h.c0, h.c1]
/-- k stripes have their data. -/
structure Fk (h : ByteArray) (K : Nat) (b : List ByteArray) (k : Nat) (l : List St) : Prop where
  n : l.map St.n = (hdS h).map St.n
  d : ∀ i (hi : i < l.length), i < k → l[i].d = chunk K b i
  z : ∀ i (hi : i < l.length), k ≤ i → l[i].d = []
theorem Fk.zero (h : ByteArray) (K : Nat) (b : List ByteArray) : Fk h K b 0 (hdS h) := by
  refine ⟨rfl, fun i _ hk => absurd hk (Nat.not_lt_zero _), fun i hi _ => ?_⟩
  have : (hdS h)[i] ∈ hdS h := List.getElem_mem hi
  obtain ⟨j, _, e⟩ := List.mem_map.1 this
  rw [← e]; rfl
theorem Fk.len {h : ByteArray} {K k : Nat} {b : List ByteArray} {l : List St} (f : Fk h K b k l) : l.length = (hdS h).length := by have := congrArg List.length f.n; simpa using this
theorem Fk.set {h : ByteArray} {K k : Nat} {b : List ByteArray} {l : List St} (f : Fk h K b k l) (hk : k < l.length) (u : Value) : Fk h K b (k + 1) (l.set k ⟨l[k].n, chunk K b k, u⟩) := by
  refine ⟨?_, fun i hi hik => ?_, fun i hi hik => ?_⟩
  · rw [← f.n]
    apply List.ext_getElem (by simp)
    intro i h1 h2
    simp only [List.getElem_map, List.getElem_set]
    split
    · subst k; rfl
    · rfl
  · rw [List.length_set] at hi
    rw [List.getElem_set]
    split
    · subst k; rfl
    · exact f.d i hi (by omega)
  · rw [List.length_set] at hi
    rw [List.getElem_set, if_neg (by omega)]
    exact f.z i hi (by omega)
theorem Fk.all {h : ByteArray} {K n : Nat} {b : List ByteArray} {l : List St} (f : Fk h K b n l) (hn : n = l.length) (hb : b.length = l.length * K) : allT l = b ∧ ∀ s ∈ l, s.d.length = K := by
  have e : l.map St.d = (List.range l.length).map (chunk K b) := by
    apply List.ext_getElem (by simp)
    intro i h1 h2
    have hi : i < l.length := by simpa using h1
    simp only [List.getElem_map, List.getElem_range]
    exact f.d i hi (by omega)
  refine ⟨?_, fun s hs => ?_⟩
  · show l.flatMap (fun s => s.d) = b
    rw [← flat_chunks K l.length b hb, List.flatMap_def, List.flatMap_def, e]
  · obtain ⟨i, hi, rfl⟩ := List.mem_iff_getElem.1 hs
    rw [f.d i hi (by omega)]
    unfold chunk
    rw [List.length_take, List.length_drop, hb]
    have : (i + 1) * K ≤ l.length * K := Nat.mul_le_mul_right _ hi
    rw [Nat.succ_mul] at this
    omega
structure TIn (w : World) (p x y c : Nat) (K : Nat) (M B : Int) (h : ByteArray) (b : List ByteArray) (k : Nat) (wr : World) (l : List St) : Prop where
  g : GBx wr p (K : Int) M B
  z : RBx wr (p + 1) 0 (.slice none 0 0)
  o : RBx wr x (hdQ h) (.slice (some ⟨y, 0, none⟩) (hdS h).length c)
  f : SFam wr (p + 2) (.slice (some ⟨y, 0, none⟩) (hdS h).length c) l
  k : Fk h K b k l
  b : Below p w wr
set_option maxRecDepth 100000 in
set_option maxHeartbeats 4000000 in
theorem take11_any (K M B : Int) (h : ByteArray) (v : Value) (b : List ByteArray) (w : World) (hs : h.size ≤ 140737488355328) (hb : Reads w v (b.map .string)) (hbz : ∀ t ∈ b, t.size ≤ 140737488355328) (hbn : b.length ≤ 140737488351232) (hcap : ∀ a n c, v = .slice a n c → n ≤ c) :
    Calls Tryz.prog 60 #[.agg #[.int .i64 K, .int .i64 M, .int .i64 B], .string h, v] w (GivesTk w K M B h b) := by
  obtain ⟨p, hp⟩ : ∃ p, w.heap.size = p := ⟨_, rfl⟩
  have hbad : Hid (takeB K M B h b = false → ∀ w', Below p w w' → GivesTk w K M B h b (.returned (.tuple #[.agg #[.int .i64 0, .slice none 0 0], .int .i64 110])) w') := Lib.hid fun hB w' hb => GivesTk.bad hB (by rw [hp]; exact hb)
  have g0 := GBx.made w K M B 23
  have b0 : Below p w (w.alloc (.cells #[.int .i64 K, .int .i64 M, .int .i64 B] 23)) := (Below.refl _ _).alloc (by omega) _
  rw [hp] at g0
  obtain ⟨va, vc, hv⟩ := hb.isSlice
  rw [List.length_map] at hv
  have hcv := hcap _ _ _ hv
  subst hv
  clear hcap
  have hsz : (w.alloc (.cells #[.int .i64 K, .int .i64 M, .int .i64 B] 23)).heap.size = p + 1 := by simp [hp]
  have z1 := RBx.made (w.alloc (.cells #[.int .i64 K, .int .i64 M, .int .i64 B] 23)) 0 (.slice none 0 0) 30
  have bb : Below (p + 1) (w.alloc (.cells #[.int .i64 K, .int .i64 M, .int .i64 B] 23)) ((w.alloc (.cells #[.int .i64 K, .int .i64 M, .int .i64 B] 23)).alloc (.cells #[.int .i64 0, .slice none 0 0] 30)) := (Below.refl _ _).alloc (by omega) _
  rw [hsz] at z1
  have g1 := g0.below bb (by omega)
  have b1 := b0.trans (bb.mono (by omega))
  have hb1 := hb.below (by rw [hp]; exact b1)
  clear hsz g0 b0 bb
  have e0 := g1.c0
  have e1 := g1.c1
  have e2 := g1.c2
  have hp2 : p + 1 + 1 ≤ ((w.alloc (.cells #[.int .i64 K, .int .i64 M, .int .i64 B] 23)).alloc (.cells #[.int .i64 0, .slice none 0 0] 30)).heap.size := by simp [hp]
  go_enter Tryz.func60, Tryz.ntmps60
  go_wp2_with (fail)
  clear e0 e1 e2
  replace hp := Lib.hid hp
  generalize (w.alloc (.cells #[.int .i64 K, .int .i64 M, .int .i64 B] 23)).alloc (.cells #[.int .i64 0, .slice none 0 0] 30) = w1 at *
  refine (parse_any K M B h w1 hs).mono ?_
  rintro e w2 ⟨u, rfl, f2, b2⟩
  have g2 := g1.below b2 g1.lt
  have z2 := z1.below b2 z1.lt
  have hb2 := hb1.below b2
  have b3 := b1.trans (b2.mono (by omega))
  have hs2 := b2.size
  clear g1 z1 hb1 b1 b2
  cases ht : headB K M B h with
  | false =>
    have hB : takeB K M B h b = false := by unfold takeB; rw [ht]; rfl
    replace hbad := Lib.hid (hbad.out hB)
    rw [ht] at f2
    simp only [Bool.false_eq_true, if_false] at f2 ⊢
    obtain ⟨ua, uc, rfl⟩ := f2.o.isSlice
    rw [List.length_nil]
    have X := RBx.made w2 0 (.slice ua 0 uc) 30
    have bb : Below w2.heap.size w2 (w2.alloc (.cells #[.int .i64 0, .slice ua 0 uc] 30)) := (Below.refl _ _).alloc (Nat.le_refl _) _
    have z4 := z2.below bb z2.lt
    have b4 := b3.trans (bb.mono (by omega))
    clear hB ht f2
    have e0 := z4.c0
    have e1 := z4.c1
    have e2 := z4.f0
    have e3 := z4.f1
    go_wp2_with (fail)
    refine bodyPost_ret (res_take (z4.put 0 (.slice none 0 0)) rfl rfl) rfl ?_
    exact hbad.out _ (put_below b4 (by omega) _ _)
  | true =>
    have hk := headB_K ht
    obtain ⟨kk, rfl⟩ := Int.eq_ofNat_of_zero_le (show 0 ≤ K by omega)
    have hk1 : 1 ≤ kk := by omega
    have hk4 : kk ≤ 4 := by omega
    have hn1 := hk.2.1
    have hn16 := hk.2.2
    rw [ht] at f2
    simp only [if_true] at f2 ⊢
    obtain ⟨y, yc, rfl, hy, hy2⟩ := f2.o.form (by omega)
    have X := RBx.made w2 (hdQ h) (.slice (some ⟨y, 0, none⟩) (hdS h).length yc) 30
    have bb : Below w2.heap.size w2 (w2.alloc (.cells #[.int .i64 (hdQ h), .slice (some ⟨y, 0, none⟩) (hdS h).length yc] 30)) := (Below.refl _ _).alloc (Nat.le_refl _) _
    have z4 := z2.below bb z2.lt
    have g4 := g2.below bb g2.lt
    have f4 := f2.after bb
    have hb4 := hb2.below bb
    have b4 := b3.trans (bb.mono (by omega))
    clear hk z2 g2 f2 hb2 b3 bb
    obtain ⟨x, hx⟩ : ∃ x, w2.heap.size = x := ⟨_, rfl⟩
    rw [hx] at X hy2
    have e0 := z4.c0
    have e1 := z4.c1
    have e2 := z4.f0
    have e3 := z4.f1
    have e4 := g4.c0
    have e5 := X.c0
    have e6 := X.c1
    have hmul : ((hdS h).length : Int) * (kk : Int) = (((hdS h).length * kk : Nat) : Int) := by simp
    have hmx : (hdS h).length * kk ≤ 64 := by have := Nat.mul_le_mul hn16 hk4; omega
    have hwr : IntKind.i64.wrap (((hdS h).length : Int) * (kk : Int)) = (((hdS h).length * kk : Nat) : Int) := by rw [hmul]; exact IntWalk.i64_in _ (by omega)
    replace hwr := Lib.hid hwr
    replace hmul := Lib.hid hmul
    by_cases hlen : b.length = (hdS h).length * kk
    · have heq : (((b.length : Int)) != (((hdS h).length * kk : Nat) : Int)) = false := by rw [hlen, bne_self_eq_false]
      have hr1 : Reads w (.slice va b.length vc) (b.map .string) := hb
      obtain ⟨bb, off, rfl⟩ : ∃ bb off, va = some ⟨bb, off, none⟩ := by
        rcases hb with ⟨_, h0⟩ | ⟨bb, off, cap, h1, _⟩
        · have : b.length = 0 := by have := congrArg List.length h0; simpa using this
          have : 1 * 1 ≤ (hdS h).length * kk := Nat.mul_le_mul hn1 hk1
          omega
        · exact ⟨bb, off, by simp at h1; exact h1.1⟩
      have hI0 : Hid (TIn w p x y yc kk M B h b 0 (w2.alloc (.cells #[.int .i64 (hdQ h), .slice (some ⟨y, 0, none⟩) (hdS h).length yc] 30)) (hdS h)) := Lib.hid ⟨g4, z4, X, f4.mono (by omega), Fk.zero _ _ _, b4⟩
      have hwr' := hwr.out
      replace hlen := Lib.hid hlen
      have hbK : Hid (Reads w (.slice (some ⟨bb, off, none⟩) b.length vc) (b.map .string)) := Lib.hid hb
      clear hb
      generalize hN : (hdS h).length = n at *
      replace hN := Lib.hid hN
      generalize hnk : n * kk = nk at *
      replace hnk := Lib.hid hnk
      clear z4 g4 X b4 f4 hb4
      go_wp2_with (fail)
      generalize w2.alloc (.cells #[.int .i64 (hdQ h), .slice (some ⟨y, 0, none⟩) n yc] 30) = w5 at *
      clear e0 e1 e2 e3 e4 e5 e6 hwr' heq
      go_loopw [36] (fun t wr => ∃ k : Nat, k ≤ n ∧ t = .int .i64 (k : Int) ∧ ∃ l, TIn w p x y yc kk M B h b k wr l) (fun t _ => n - (RowKit.intOf t).toNat)
      case atStart => exact ⟨0, by omega, rfl, _, hI0.out⟩
      case round =>
        obtain ⟨k, hk, rfl, l, hI⟩ := hrel
        rename World => wr
        clear hI0
        obtain ⟨g0, z0, o0, f0, fk, b0⟩ := hI
        rw [hN.out] at o0 f0
        have hl := fk.len
        rw [hN.out] at hl
        by_cases hlt : k < n
        · have y1 : (k : Int) < (n : Int) := by omega
          have g1 : GBx wr.drew p kk M B := g0.heap rfl (Nat.le_refl _)
          have z1 : RBx wr.drew (p + 1) 0 (.slice none 0 0) := z0.heap rfl (Nat.le_refl _)
          have o1 : RBx wr.drew x (hdQ h) (.slice (some ⟨y, 0, none⟩) n yc) := o0.heap rfl (Nat.le_refl _)
          have f1 : SFam wr.drew (p + 2) (.slice (some ⟨y, 0, none⟩) n yc) l := f0.heap fun _ _ _ => rfl
          have b1 : Below p w wr.drew := b0.trans ⟨rfl, rfl, rfl, Nat.le_refl _, fun _ _ => rfl⟩
          clear g0 z0 o0 f0 b0
          have e1 := o1.c1
          have e2 := g1.c0
          have q1 : (k + 1) * kk ≤ n * kk := Nat.mul_le_mul_right _ hlt
          have q2 : (k + 1) * kk = k * kk + kk := Nat.succ_mul _ _
          have q3 := hnk.out
          have q4 := hlen.out
          have hm1 : IntKind.i64.wrap ((k : Int) * (kk : Int)) = ((k * kk : Nat) : Int) := by
            rw [show (k : Int) * (kk : Int) = ((k * kk : Nat) : Int) by simp]; exact IntWalk.i64_in _ (by omega)
          have hm2 : IntKind.i64.wrap (((k : Int) + 1) * (kk : Int)) = ((k * kk + kk : Nat) : Int) := by
            rw [show ((k : Int) + 1) * (kk : Int) = (((k + 1) * kk : Nat) : Int) by simp, q2]; exact IntWalk.i64_in _ (by omega)
          have hm3 : IntKind.i64.wrap ((k : Int) + 1) = (k : Int) + 1 := IntWalk.i64_in _ (by omega)
          obtain ⟨lo, hlo⟩ : ∃ lo, k * kk = lo := ⟨_, rfl⟩
          rw [hlo] at hm1 hm2 q2
          obtain ⟨hi, hhi⟩ : ∃ hi, lo + kk = hi := ⟨_, rfl⟩
          rw [hhi] at hm2
          have q5 : hi ≤ b.length := by omega
          have q6 : hi ≤ vc := by omega
          have q7 : lo ≤ hi := by omega
          have q8 : ¬ vc = lo := by omega
          have hck : chunk kk b k = (b.drop lo).take kk := by unfold chunk; rw [hlo]
          have hckl : (chunk kk b k).length = hi - lo := by rw [hck, List.length_take, List.length_drop]; omega
          have hrd : Hid (∀ W, Below wr.drew.heap.size wr.drew W → Reads W (.slice (some ⟨bb, off + lo, none⟩) (hi - lo) (vc - lo)) ((chunk kk b k).map .string)) := Lib.hid fun W hW => by
            have hr2 := (hbK.out.below (by rw [hp.out]; exact b1)).below hW
            rcases hr2 with ⟨_, h0⟩ | ⟨b', off', cap', h1, h2, h3⟩
            · have : b.length = 0 := by have := congrArg List.length h0; simpa using this
              omega
            · simp only [Value.slice.injEq, Option.some.injEq, Addr.mk.injEq] at h1
              obtain ⟨⟨rfl, rfl, _⟩, _, rfl⟩ := h1
              refine .inr ⟨bb, off + lo, vc - lo, by rw [List.length_map, hckl], h2, fun i hi' => ?_⟩
              rw [List.length_map, hckl] at hi'
              rw [Nat.add_assoc, h3 (lo + i) (by rw [List.length_map]; omega), hck, List.map_take, List.map_drop]
              simp only [List.getD_eq_getElem?_getD]
              rw [List.getElem?_take_of_lt (by omega), List.getElem?_drop]
          have hckn : (chunk kk b k).length ≤ 1000 := by omega
          have hyx := hy2
          replace hlo := Lib.hid hlo
          replace hhi := Lib.hid hhi
          replace hck := Lib.hid hck
          replace hckl := Lib.hid hckl
          clear q1 q2 q3 q4
          have hcl := fun W hW => cloneT_any (.slice (some ⟨bb, off + lo, none⟩) (hi - lo) (vc - lo)) (chunk kk b k) W (hrd.out W hW) hckn
          have hyl := (f1.o.lt y rfl).2
          have hxl := o1.lt
          have q9 : k < l.length := by omega
          go_wp2_with (fail)
          go_region_law (first
            | (go_simp; go_at_call 97; refine (hcl _ (Below.refl _ _)).mono ?_; rintro e w7 ⟨u, rfl, hu, b7⟩
               obtain ⟨ua, uc, ev⟩ := hu.isSlice
               rw [List.length_map] at ev
               subst ev
               have f7 := f1.after b7
               have cy : w7.cell? ⟨y, k * 2 + 1, none⟩ = some (cell1 l[k].v) := f7.o.cell (i := k) q9 (j := 1) (by decide)
               have dy := f7.o.frozen (k * 2 + 1)
               have c7 := (o1.below b7 hxl).c1
               have g7 := (g1.below b7 g1.lt).c0
               have sf := Lib.hid (f7.setV (i := k) q9 hu (by omega) (fun s hs j hj => (f1.old s.v (.inr ⟨s, hs, rfl⟩) j hj).2) hyl)
               replace f7 := Lib.hid f7
               replace hu := Lib.hid hu))
          all_goals
            go_wp2_with (fail)
            go_roundw
            case rel =>
              have hyp : p + 2 ≤ y := by omega
              have hz1 := z1.lt
              have hg1 := g1.lt
              refine ⟨k + 1, by omega, by go_num, l.set k ⟨l[k].n, chunk kk b k, .slice ua (chunk kk b k).length uc⟩, ?_⟩
              refine ⟨(g1.below b7 hg1).heap (Below.heap_setCell _ _ _ _ (by show p ≠ y; omega)) (by simp), (z1.below b7 hz1).heap (Below.heap_setCell _ _ _ _ (by show p + 1 ≠ y; omega)) (by simp), ?_, ?_, fk.set q9 _, ?_⟩
              · rw [hN.out]; exact (o1.below b7 hxl).heap (Below.heap_setCell _ _ _ _ (by show x ≠ y; omega)) (by simp)
              · rw [hN.out]; exact sf.out
              · exact (b1.trans (b7.mono (by omega))).setCell (p := ⟨y, k * 2 + 1, none⟩) (by show p ≤ y; omega) _
            case measure => simp [RowKit.intOf]; omega
        · obtain rfl : k = n := by omega
          have y1 : ¬ ((k : Int) < (k : Int)) := by omega
          have hbl : b.length = l.length * kk := by have := hnk.out; have := hlen.out; rw [hl]; omega
          obtain ⟨hall, hdk⟩ := fk.all hl.symm hbl
          have hrd := f0.reads fun s hs => ⟨by rw [hdk s hs]; omega, fun t ht' => hbz t (by rw [← hall]; exact List.mem_flatMap.2 ⟨s, hs, ht'⟩)⟩
          have hrB : rightB (kk : Int) M B (hdQ h) l = txtB b := by
            unfold rightB
            rw [all_st (by omega) (fun s hs => by rw [hdk s hs]; simp), hall, ordB_nums fk.n]
            have : ordB (kk : Int) M B (hdQ h) (hdS h) = true := by unfold headB at ht; simp only [Bool.and_eq_true] at ht; exact ht.2.2
            rw [this, Bool.true_and]
          have hB : Hid (takeB (kk : Int) M B h b = (txtB b && decide (((sumT b : Nat) : Int) = hdC h))) := Lib.hid (by
            unfold takeB
            have : (b.length : Int) = ((hdS h).length : Int) * (kk : Int) := by rw [hN.out, hmul.out, hlen.out]
            rw [ht, decide_eq_true this]; rfl)
          have hgo : Hid (takeB (kk : Int) M B h b = true → ∀ w', SFam w' (p + 2) (.slice (some ⟨y, 0, none⟩) k yc) l → Below p w w' → GivesTk w (kk : Int) M B h b (.returned (.tuple #[.agg #[.int .i64 (hdQ h), .slice (some ⟨y, 0, none⟩) k yc], .int .i64 0])) w') := Lib.hid fun hB w' hf hb =>
            GivesTk.ok hB (hf.mono (by rw [hp.out]; omega)) (take_l fk.n (fun s hs => by rw [hdk s hs]; simp) hall) (by rw [hp.out]; exact hb)
          rw [← hl] at hrd
          have cR := fun W (hw : SReads W (.slice (some ⟨y, 0, none⟩) l.length yc) l) => right11_any (kk : Int) M B (hdQ h) (.slice (some ⟨y, 0, none⟩) l.length yc) l W hw (by omega)
          have cC := fun W (hw : SReads W (.slice (some ⟨y, 0, none⟩) l.length yc) l) => checksum_any (hdQ h) (.slice (some ⟨y, 0, none⟩) l.length yc) l W hw (by omega)
          rw [hrB] at cR
          rw [hall] at cC
          rw [hl] at hrd cR cC
          clear hall hdk hrB fk hbl ht hbz
          generalize txtB b = tb at *
          generalize sumT b = sb at *
          have e0 := g0.c0
          have e1 := g0.c1
          have e2 := g0.c2
          have e3 := o0.c0
          have e4 := o0.c1
          replace hl := Lib.hid hl
          go_wp2_with (fail)
          refine (cR _ hrd).mono ?_
          rintro e w6 ⟨rfl, b6⟩
          have z6 := z0.below b6 z0.lt
          have o6 := o0.below b6 o0.lt
          have f6 := f0.after b6
          have r6 := hrd.below b6
          have bb6 := b0.trans (b6.mono (by have := g0.lt; omega))
          have hpw : p + 1 < w6.heap.size := z6.lt
          clear e0 e1 e2 e3 e4 g0 z0 o0 f0 hrd b0 b6 cR
          cases tb with
          | false =>
            have hB' := hB.out
            rw [Bool.false_and] at hB'
            replace hbad := Lib.hid (hbad.out hB')
            have e0 := z6.c0
            have e1 := z6.c1
            have e2 := z6.f0
            have e3 := z6.f1
            clear hB' hB
            go_wp2_with (fail)
            refine bodyPost_ret (res_take (z6.put 0 (.slice none 0 0)) rfl rfl) rfl ?_
            exact hbad.out _ (put_below bb6 (by omega) _ _)
          | true =>
            have hB' := hB.out
            rw [Bool.true_and] at hB'
            replace hB' := Lib.hid hB'
            clear hB
            have e3 := o6.c0
            have e4 := o6.c1
            go_wp2_with (fail)
            refine (cC _ r6).mono ?_
            rintro e w7 ⟨rfl, b7⟩
            have z7 := z6.below b7 z6.lt
            have o7 := o6.below b7 o6.lt
            have f7 := f6.after b7
            have bb7 := bb6.trans (b7.mono (by omega))
            clear e3 e4 z6 o6 f6 r6 bb6 b7 cC
            have e0 := z7.c0
            have e1 := z7.c1
            have e2 := z7.f0
            have e3 := z7.f1
            have e4 := o7.c0
            have e5 := o7.c1
            by_cases hs' : ((sb : Nat) : Int) = hdC h
            · have ne : (((sb : Nat) : Int) != hdC h) = false := by rw [hs', bne_self_eq_false]
              have hB := hB'.out
              rw [decide_eq_true hs'] at hB
              replace hgo := Lib.hid (hgo.out hB)
              clear hs' hB hB'
              go_wp2_with (fail)
              refine bodyPost_ret (res_take (z7.put (hdQ h) (.slice (some ⟨y, 0, none⟩) k yc)) rfl rfl) rfl ?_
              exact hgo.out _ (f7.heap fun j h1 h2 => put_heap _ _ _ _ (by omega)) (put_below bb7 (by omega) _ _)
            · have ne : (((sb : Nat) : Int) != hdC h) = true := by rw [bne_iff_ne]; exact hs'
              have hB := hB'.out
              rw [decide_eq_false hs'] at hB
              replace hbad := Lib.hid (hbad.out hB)
              clear hs' hB hB'
              go_wp2_with (fail)
              refine bodyPost_ret (res_take (z7.put 0 (.slice none 0 0)) rfl rfl) rfl ?_
              exact hbad.out _ (put_below bb7 (by omega) _ _)
    · have hB : takeB (kk : Int) M B h b = false := by
        unfold takeB; rw [ht, hmul.out, decide_eq_false (by omega)]; rfl
      replace hbad := Lib.hid (hbad.out hB)
      have hne : (((b.length : Int)) != (((hdS h).length * kk : Nat) : Int)) = true := by rw [bne_iff_ne]; omega
      clear hB ht f4 hlen
      generalize (hdS h).length * kk = nk at *
      have hwr' := hwr.out
      go_wp2_with (fail)
      refine bodyPost_ret (res_take (z4.put 0 (.slice none 0 0)) rfl rfl) rfl ?_
      exact hbad.out _ (put_below b4 (by omega) _ _)
end
section
open Go.RowKit
set_option linter.unusedVariables false
set_option linter.unusedSimpArgs false

open Rc
/-- k texts are there. -/
structure Gk (h : ByteArray) (K : Nat) (b z : List ByteArray) (l0 : List St) (k : Nat) (l : List St) : Prop where
  n : l.map St.n = (hdS h).map St.n
  d : ∀ s ∈ l, s.d.length = K
  v : l.map St.v = l0.map St.v
  a : allT l = b.take k ++ z.drop k
theorem Gk.set {h : ByteArray} {K k : Nat} {b z : List ByteArray} {l0 l : List St} (f : Gk h K b z l0 k l) (hb : k < b.length) (hz : k < z.length) {i j : Nat} (hi : i < l.length) (hj : j < K) (hk : i * K + j = k) : Gk h K b z l0 (k + 1) (l.set i { l[i] with d := l[i].d.set j b[k] }) := by
  refine ⟨?_, fun s hs => ?_, ?_, ?_⟩
  · rw [← f.n]
    apply List.ext_getElem (by simp)
    intro a h1 h2
    simp only [List.getElem_map, List.getElem_set]
    split
    · subst i; rfl
    · rfl
  · rcases mem_set_of hs with rfl | hs
    · show (l[i].d.set j b[k]).length = K
      rw [List.length_set]; exact f.d _ (List.getElem_mem hi)
    · exact f.d s hs
  · rw [← f.v]
    apply List.ext_getElem (by simp)
    intro a h1 h2
    simp only [List.getElem_map, List.getElem_set]
    split
    · subst i; rfl
    · rfl
  · rw [allT_set f.d hi hj, hk, f.a, upto_set b z hb hz]
structure UIn (w : World) (p x y c n : Nat) (K : Nat) (M B : Int) (h : ByteArray) (b Z : List ByteArray) (l0 : List St) (k : Nat) (wr : World) (l : List St) : Prop where
  g : GBx wr p (K : Int) M B
  z : RBx wr (p + 1) 0 (.slice none 0 0)
  o : RBx wr x (hdQ h) (.slice (some ⟨y, 0, none⟩) n c)
  f : SFam wr (p + 2) (.slice (some ⟨y, 0, none⟩) n c) l
  k : Gk h K b Z l0 k l
  b : Below p w wr
end
end Go.Proofs.YtfadglcpapiklaaGreatDoor
end
