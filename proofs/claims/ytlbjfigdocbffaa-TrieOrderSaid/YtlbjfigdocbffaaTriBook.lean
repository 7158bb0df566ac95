/- trie: a book in memory. -/
import Derived.Test.YtlbjfigdocbffaaTriList
import Derived.Test.YtlbjfigdocbffaaSl4
import Derived.Test.YtlbjfigdocbffaaSl2
namespace Go.Proofs.Ytlbjfigdocbffaa
open Go.RowKit
set_option linter.unusedVariables false
set_option linter.unusedSimpArgs false

def kI (p : Nat × ByteArray) : Value := .int .i64 (p.1 : Int)
def kS (p : Nat × ByteArray) : Value := .string p.2
/-- Where a book's parts lie. -/
structure BkA (bk rb kb tb h g m : Nat) (u : Value) : Prop where
  br : bk ≠ rb
  bk_ : bk ≠ kb
  bt : bk ≠ tb
  rk : rb ≠ kb
  rt : rb ≠ tb
  kt : kb ≠ tb
  bg : bk ≠ g ∧ bk ≠ m
  rg : rb ≠ g ∧ rb ≠ m
  kg : kb ≠ g ∧ kb ≠ m
  tg : tb ≠ g ∧ tb ≠ m
  hr : h ≠ rb ∧ h ≠ kb ∧ h ≠ tb
  gr : g ≠ rb ∧ g ≠ kb ∧ g ≠ tb
  mr : m ≠ rb ∧ m ≠ kb ∧ m ≠ tb
  ur : ∀ q, u.ownBlock = some q → q ≠ rb ∧ q ≠ kb ∧ q ≠ tb
/-- A book: its box, its rows. -/
structure BkW (w : World) (bk rb kb tb h g m : Nat) (R : Nat → Nat) (kv tv : Nat → Value) (K : Nat → List (Nat × ByteArray)) : Prop where
  b : w.heap[bk]? = some (.cells #[.pointer (some ⟨g, 0, none⟩), .pointer (some ⟨h, 0, none⟩), .slice (some ⟨rb, 0, none⟩) 4 4, .slice (some ⟨kb, 0, none⟩) 4 4, .slice (some ⟨tb, 0, none⟩) 4 4] 34 (0, 0))
  r : w.heap[rb]? = some (.cells (rowV 4 fun i => .int .i64 (R i : Int)).toArray 3 (0, 0))
  k : w.heap[kb]? = some (.cells (rowV 4 kv).toArray 28 (0, 0))
  t : w.heap[tb]? = some (.cells (rowV 4 tv).toArray 54 (0, 0))
  kr : ∀ i, i < 4 → Reads w (kv i) ((K i).map kI)
  tr : ∀ i, i < 4 → Reads w (tv i) ((K i).map kS)
  kd : ∀ i, i < 4 → ∀ q, (kv i).ownBlock = some q → q ≠ g ∧ q ≠ m ∧ q ≠ rb ∧ q ≠ kb ∧ q ≠ tb
  td : ∀ i, i < 4 → ∀ q, (tv i).ownBlock = some q → q ≠ g ∧ q ≠ m ∧ q ≠ rb ∧ q ≠ kb ∧ q ≠ tb
  len : ∀ i, i < 4 → (K i).length ≤ 4096
  kc : ∀ i, i < 4 → ∀ a n c, kv i = .slice a n c → n ≤ c
  tc : ∀ i, i < 4 → ∀ a n c, tv i = .slice a n c → n ≤ c
theorem rowV_cell {w : World} {b n : Nat} {f : Nat → Value} {T : TypeId} (h : w.heap[b]? = some (.cells (rowV n f).toArray T (0, 0))) {i : Nat} (hi : i < n) : w.cell? ⟨b, i, none⟩ = some (f i) := by
  simp only [World.cell?, h]
  have := rowV_get n f i hi .nilFunc
  have hl := rowV_len n f
  simp only [List.getElem?_toArray]
  rw [List.getD_eq_getElem?_getD, List.getElem?_eq_getElem (by omega)] at this
  rw [List.getElem?_eq_getElem (by omega)]
  exact congrArg some this
def updF {α : Type} (f : Nat → α) (i : Nat) (v : α) : Nat → α := fun j => if j = i then v else f j
theorem updF_same {α : Type} (f : Nat → α) (i : Nat) (v : α) : updF f i v i = v := if_pos rfl
theorem updF_other {α : Type} {f : Nat → α} {i j : Nat} {v : α} (h : j ≠ i) : updF f i v j = f j := if_neg h
theorem rowV_store {w : World} {b n : Nat} {f : Nat → Value} {T : TypeId} (h : w.heap[b]? = some (.cells (rowV n f).toArray T (0, 0))) (i : Nat) (v : Value) : (w.setCell ⟨b, i, none⟩ v).heap[b]? = some (.cells (rowV n (updF f i v)).toArray T (0, 0)) := by
  rw [← rowV_set n f (updF f i v) i v (updF_same f i v) (fun j hj => updF_other hj)]
  simp [World.setCell, Array.getElem?_modify, h]
section
variable {w w' : World} {bk rb kb tb h g m : Nat} {u : Value} {R : Nat → Nat} {kv tv : Nat → Value} {K : Nat → List (Nat × ByteArray)}
theorem BkW.c0 (H : BkW w bk rb kb tb h g m R kv tv K) : w.cell? ⟨bk, 0, none⟩ = some (.pointer (some ⟨g, 0, none⟩)) := by simp [World.cell?, H.b]
theorem BkW.c1 (H : BkW w bk rb kb tb h g m R kv tv K) : w.cell? ⟨bk, 1, none⟩ = some (.pointer (some ⟨h, 0, none⟩)) := by simp [World.cell?, H.b]
theorem BkW.c2 (H : BkW w bk rb kb tb h g m R kv tv K) : w.cell? ⟨bk, 2, none⟩ = some (.slice (some ⟨rb, 0, none⟩) 4 4) := by simp [World.cell?, H.b]
theorem BkW.c3 (H : BkW w bk rb kb tb h g m R kv tv K) : w.cell? ⟨bk, 3, none⟩ = some (.slice (some ⟨kb, 0, none⟩) 4 4) := by simp [World.cell?, H.b]
theorem BkW.c4 (H : BkW w bk rb kb tb h g m R kv tv K) : w.cell? ⟨bk, 4, none⟩ = some (.slice (some ⟨tb, 0, none⟩) 4 4) := by simp [World.cell?, H.b]
theorem BkW.cr (H : BkW w bk rb kb tb h g m R kv tv K) {i : Nat} (hi : i < 4) : w.cell? ⟨rb, i, none⟩ = some (.int .i64 (R i : Int)) := rowV_cell H.r hi
theorem BkW.ck (H : BkW w bk rb kb tb h g m R kv tv K) {i : Nat} (hi : i < 4) : w.cell? ⟨kb, i, none⟩ = some (kv i) := rowV_cell H.k hi
theorem BkW.ct (H : BkW w bk rb kb tb h g m R kv tv K) {i : Nat} (hi : i < 4) : w.cell? ⟨tb, i, none⟩ = some (tv i) := rowV_cell H.t hi
theorem BkW.lts (H : BkW w bk rb kb tb h g m R kv tv K) : bk < w.heap.size ∧ rb < w.heap.size ∧ kb < w.heap.size ∧ tb < w.heap.size := ⟨(Array.getElem?_eq_some_iff.1 H.b).1, (Array.getElem?_eq_some_iff.1 H.r).1, (Array.getElem?_eq_some_iff.1 H.k).1, (Array.getElem?_eq_some_iff.1 H.t).1⟩
theorem Reads.blk {v : Value} {xs : List Value} (hr : Reads w v xs) : xs = [] ∨ ∀ q, v.ownBlock = some q → q < w.heap.size := by
  rcases hr with ⟨_, h2⟩ | ⟨b, off, cap, h1, h2, h3⟩
  · exact .inl h2
  · refine .inr fun q hq => ?_
    rw [h1] at hq
    have : b = q := by injection hq
    omega
theorem Reads.kept {v : Value} {xs : List Value} (hr : Reads w v xs) (hs : w.heap.size ≤ w'.heap.size) (hb : ∀ q, v.ownBlock = some q → q < w.heap.size → w'.heap[q]? = w.heap[q]?) : Reads w' v xs := by
  rcases hr.blk with rfl | h2
  · rcases hr with h1 | ⟨b, off, cap, h1, h2, h3⟩
    · exact .inl h1
    · exact .inl ⟨⟨_, _, h1⟩, rfl⟩
  · exact hr.same hs fun q hq => hb q hq (h2 q hq)
/-- Whatever leaves the book's own blocks, and those of its lists, leaves the book. -/
theorem BkW.same (H : BkW w bk rb kb tb h g m R kv tv K) (hs : w.heap.size ≤ w'.heap.size) (hb : ∀ q, q < w.heap.size → (q = bk ∨ q = rb ∨ q = kb ∨ q = tb ∨ (q ≠ g ∧ q ≠ m ∧ q ≠ rb ∧ q ≠ kb ∧ q ≠ tb)) → w'.heap[q]? = w.heap[q]?) : BkW w' bk rb kb tb h g m R kv tv K := by
  obtain ⟨l1, l2, l3, l4⟩ := H.lts
  exact ⟨(hb bk l1 (.inl rfl)).trans H.b, (hb rb l2 (.inr (.inl rfl))).trans H.r, (hb kb l3 (.inr (.inr (.inl rfl)))).trans H.k, (hb tb l4 (.inr (.inr (.inr (.inl rfl))))).trans H.t,
    fun i hi => (H.kr i hi).kept hs fun q hq hlt => hb q hlt (.inr (.inr (.inr (.inr (H.kd i hi q hq))))), fun i hi => (H.tr i hi).kept hs fun q hq hlt => hb q hlt (.inr (.inr (.inr (.inr (H.td i hi q hq))))), H.kd, H.td, H.len, H.kc, H.tc⟩
theorem BkW.to (H : BkW w bk rb kb tb h g m R kv tv K) (A : BkA bk rb kb tb h g m u) (hT : HTo w g m w') : BkW w' bk rb kb tb h g m R kv tv K :=
  H.same hT.size fun q hq hc => by
    have := A.bg; have := A.rg; have := A.kg; have := A.tg
    refine hT.oth q hq ?_ ?_ <;> rcases hc with rfl | rfl | rfl | rfl | hc <;> omega
theorem BkW.below (H : BkW w bk rb kb tb h g m R kv tv K) (hb : Below w.heap.size w w') : BkW w' bk rb kb tb h g m R kv tv K := H.same hb.size fun q hq _ => hb.block q hq
/-- A heap that is left. -/
theorem Hp.same {n : Nat} {C : Nat → Nat} {Z : Int → Bool} {X : Nat → ByteArray} (H : Hp w h g m n u C Z X) (hs : w.heap.size ≤ w'.heap.size) (hb : ∀ q, q < w.heap.size → (q = h ∨ q = g ∨ q = m ∨ u.ownBlock = some q) → w'.heap[q]? = w.heap[q]?) : Hp w' h g m n u C Z X := by
  have h3 := H.blk
  obtain ⟨F, H⟩ := H
  exact ⟨F, ⟨(hb h H.lt (.inl rfl)).trans H.b, H.t.heap (hb g H.t.lt (.inr (.inl rfl))), H.p.heap (hb m H.p.lt (.inr (.inr (.inl rfl)))), H.s.same hs (fun k hk => hb k (h3 k hk) (.inr (.inr (.inr hk)))), H.sb, H.sm, H.hg, H.hm, H.gm, H.f, H.z, H.k, H.x⟩⟩
/-- A root is written into the book. -/
theorem BkW.setR (H : BkW w bk rb kb tb h g m R kv tv K) (A : BkA bk rb kb tb h g m u) (i v : Nat) : BkW (w.setCell ⟨rb, i, none⟩ (.int .i64 (v : Int))) bk rb kb tb h g m (updF R i v) kv tv K := by
  have ho : ∀ q, q ≠ rb → (w.setCell ⟨rb, i, none⟩ (.int .i64 (v : Int))).heap[q]? = w.heap[q]? := fun q hq => Below.heap_setCell _ _ _ _ (fun e => hq (by have e : q = rb := e; exact e))
  have hs : w.heap.size ≤ (w.setCell ⟨rb, i, none⟩ (.int .i64 (v : Int))).heap.size := by simp
  refine ⟨(ho bk A.br).trans H.b, ?_, (ho kb A.rk.symm).trans H.k, (ho tb A.rt.symm).trans H.t, fun j hj => (H.kr j hj).kept hs fun q hq _ => ho q (H.kd j hj q hq).2.2.1, fun j hj => (H.tr j hj).kept hs fun q hq _ => ho q (H.td j hj q hq).2.2.1, H.kd, H.td, H.len, H.kc, H.tc⟩
  rw [rowV_store H.r i]
  congr 2
  refine congrArg List.toArray ?_
  unfold rowV
  refine List.map_congr_left fun j _ => ?_
  unfold updF
  split <;> rfl
/-- Lists are written into the book. -/
theorem BkW.setKT (H : BkW w bk rb kb tb h g m R kv tv K) (A : BkA bk rb kb tb h g m u) (i : Nat) (hi : i < 4) (a b : Value) (l : List (Nat × ByteArray)) (ha : Reads w a (l.map kI)) (hb : Reads w b (l.map kS)) (hl : l.length ≤ 4096)
    (had : ∀ q, a.ownBlock = some q → q ≠ g ∧ q ≠ m ∧ q ≠ rb ∧ q ≠ kb ∧ q ≠ tb) (hbd : ∀ q, b.ownBlock = some q → q ≠ g ∧ q ≠ m ∧ q ≠ rb ∧ q ≠ kb ∧ q ≠ tb) (hac : ∀ x n c, a = .slice x n c → n ≤ c) (hbc : ∀ x n c, b = .slice x n c → n ≤ c) :
    BkW ((w.setCell ⟨kb, i, none⟩ a).setCell ⟨tb, i, none⟩ b) bk rb kb tb h g m R (updF kv i a) (updF tv i b) (updF K i l) := by
  have ho : ∀ q, q ≠ kb → q ≠ tb → ((w.setCell ⟨kb, i, none⟩ a).setCell ⟨tb, i, none⟩ b).heap[q]? = w.heap[q]? := fun q h1 h2 => by
    rw [Below.heap_setCell _ _ _ _ (fun e => h2 (by have e : q = tb := e; exact e)), Below.heap_setCell _ _ _ _ (fun e => h1 (by have e : q = kb := e; exact e))]
  have hs : w.heap.size ≤ ((w.setCell ⟨kb, i, none⟩ a).setCell ⟨tb, i, none⟩ b).heap.size := by simp
  refine ⟨(ho bk A.bk_ A.bt).trans H.b, (ho rb A.rk A.rt).trans H.r, ?_, ?_, fun j hj => ?_, fun j hj => ?_, fun j hj => ?_, fun j hj => ?_, fun j hj => ?_, fun j hj => ?_, fun j hj => ?_⟩
  · rw [Below.heap_setCell _ _ _ _ (fun e => A.kt (by have e : kb = tb := e; exact e))]
    exact rowV_store H.k i a
  · have : (w.setCell ⟨kb, i, none⟩ a).heap[tb]? = w.heap[tb]? := Below.heap_setCell _ _ _ _ (fun e => A.kt (by have e : tb = kb := e; exact e.symm))
    exact rowV_store (this.trans H.t) i b
  · by_cases e : j = i
    · subst e; rw [updF_same, updF_same]; exact ha.kept hs fun q hq _ => ho q (had q hq).2.2.2.1 (had q hq).2.2.2.2
    · rw [updF_other e, updF_other e]; exact (H.kr j hj).kept hs fun q hq _ => ho q (H.kd j hj q hq).2.2.2.1 (H.kd j hj q hq).2.2.2.2
  · by_cases e : j = i
    · subst e; rw [updF_same, updF_same]; exact hb.kept hs fun q hq _ => ho q (hbd q hq).2.2.2.1 (hbd q hq).2.2.2.2
    · rw [updF_other e, updF_other e]; exact (H.tr j hj).kept hs fun q hq _ => ho q (H.td j hj q hq).2.2.2.1 (H.td j hj q hq).2.2.2.2
  · by_cases e : j = i
    · subst e; rw [updF_same]; exact had
    · rw [updF_other e]; exact H.kd j hj
  · by_cases e : j = i
    · subst e; rw [updF_same]; exact hbd
    · rw [updF_other e]; exact H.td j hj
  · by_cases e : j = i
    · subst e; rw [updF_same]; exact hl
    · rw [updF_other e]; exact H.len j hj
  · by_cases e : j = i
    · subst e; rw [updF_same]; exact hac
    · rw [updF_other e]; exact H.kc j hj
  · by_cases e : j = i
    · subst e; rw [updF_same]; exact hbc
    · rw [updF_other e]; exact H.tc j hj
/-- What both stores into the rows leave, however often was drawn between them. -/
structure KTo (w : World) (kb tb i : Nat) (a b : Value) (w' : World) : Prop where
  os : w'.os = w.os
  tape : w'.tape = w.tape
  output : w'.output = w.output
  size : w'.heap.size = w.heap.size
  h : ∀ k : Nat, w'.heap[k]? = ((w.setCell ⟨kb, i, none⟩ a).setCell ⟨tb, i, none⟩ b).heap[k]?
theorem KTo.hto {i : Nat} {a b : Value} (k : KTo w kb tb i a b w') : HTo w kb tb w' :=
  ⟨⟨k.os, k.tape, k.output, Nat.le_of_eq k.size.symm, fun q hq => absurd hq (Nat.not_lt_zero _)⟩, fun q h1 h2 h3 => by
    rw [k.h q, Below.heap_setCell _ _ _ _ (fun e => h3 (by have e : q = tb := e; exact e)), Below.heap_setCell _ _ _ _ (fun e => h2 (by have e : q = kb := e; exact e))]⟩
theorem BkW.heap {R : Nat → Nat} {kv tv : Nat → Value} {K : Nat → List (Nat × ByteArray)} (H : BkW w bk rb kb tb h g m R kv tv K) (hs : w'.heap.size = w.heap.size) (hb : ∀ q : Nat, w'.heap[q]? = w.heap[q]?) : BkW w' bk rb kb tb h g m R kv tv K :=
  H.same (Nat.le_of_eq hs.symm) fun q _ _ => hb q
theorem reads_take {a : Option Addr} {n c : Nat} {xs : List Value} (hr : Reads w (.slice a n c) xs) (p : Nat) (hp : p ≤ xs.length) : Reads w (.slice a p c) (xs.take p) := by
  have hl : (xs.take p).length = p := by rw [List.length_take]; omega
  by_cases h0 : p = 0
  · subst h0; exact .inl ⟨⟨_, _, rfl⟩, by simp⟩
  · rcases hr with ⟨_, rfl⟩ | ⟨b, off, cap, h1, h2, h3⟩
    · simp at hp; omega
    · injection h1 with h1 h4 h5
      subst h1
      subst h5
      refine .inr ⟨b, off, c, by rw [hl], h2, fun i hi => ?_⟩
      rw [hl] at hi
      rw [h3 i (by omega), List.getD_eq_getElem?_getD, List.getD_eq_getElem?_getD, List.getElem?_take, if_pos hi]
theorem slice_hi {P : Program} {T E : TypeId} (hT : P.underlying T = some (.slice E)) (hz : ∀ W, (sizeOf E).run P W = .ok 1 W) (a : Option Addr) (n c p : Nat) (hp : p ≤ c) (W : World) : (Instr.slice T (.slice a n c) none (some (.int .i64 (p : Int))) none).run P W = .ok (.slice a p c) W := by
  have h1 : (p : Int) ≤ (c : Int) := by omega
  cases a with
  | none => simp [Instr.slice, run_underlying hT, Instr.sliceBounds, Instr.sliceBound, asIntOf, hz, hp]
  | some a =>
    simp [Instr.slice, run_underlying hT, Instr.sliceBounds, Instr.sliceBound, asIntOf, hz, hp]
    intro _
    cases a
    unfold Addr.add
    split <;> simp_all
end
theorem Try.infoI : (Try.prog.info? 3).map (fun i => (i.zero, i.size, i.bytes)) = some (some (.int .i64 0), 1, 8) := by kernel_rfl
theorem Try.infoS : (Try.prog.info? 9).map (fun i => (i.zero, i.size, i.bytes)) = some (some (.string ⟨#[]⟩), 1, 16) := by kernel_rfl
/-- Keys and texts, side by side, of a call's own. -/
structure KT (w : World) (B : Nat) (a b : Value) (l : List (Nat × ByteArray)) : Prop where
  oa : Own w B 3 a (l.map kI)
  ob : Own w B 9 b (l.map kS)
  ap : Apart a b
theorem KT.nil (w : World) (B : Nat) : KT w B (.slice none 0 0) (.slice none 0 0) [] := ⟨Own.nil _ _ _, Own.nil _ _ _, Apart.nil _⟩
theorem KT.push {w : World} {B : Nat} {a b : Value} {l : List (Nat × ByteArray)} (h : KT w B a b l) (k : Nat) (s : ByteArray) (hB : B ≤ w.heap.size) (hl : l.length ≤ 10000) :
    ∃ a' w1 b' w2, (Builtin.append_ #[28, 28] 28 #[a, .slice (some ⟨w.heap.size, 0, none⟩) 1 1]).run Try.prog (w.alloc (.cells #[.int .i64 (k : Int)] 3)) = .ok a' w1 ∧ Below B w w1 ∧
      (Builtin.append_ #[54, 54] 54 #[b, .slice (some ⟨w1.heap.size, 0, none⟩) 1 1]).run Try.prog (w1.alloc (.cells #[.string s] 9)) = .ok b' w2 ∧ Below B w w2 ∧ KT w2 B a' b' (l ++ [(k, s)]) := by
  obtain ⟨i1, p1, p2, p3, p4⟩ := (info_gen Try.infoI).2
  obtain ⟨i2, q1, q2, q3, q4⟩ := (info_gen Try.infoS).2
  obtain ⟨a', w1, r1, r2, r3, r4, r5⟩ := Own.pushA (P := Try.prog) (T := 28) Try.underlying28 p1 p2 p3 p4 rfl h.oa (.int .i64 (k : Int)) rfl hB (by rw [List.length_map]; omega) (by rw [List.length_map]; omega)
  have hb1 : Own w1 B 9 b (l.map kS) := h.ob.kept r4 h.ap.symm
  have ha1 : Apart b a' := Apart.push h.ob h.ap.symm r5
  obtain ⟨b', w2, s1, s2, s3, s4, s5⟩ := Own.pushA (P := Try.prog) (T := 54) Try.underlying54 q1 q2 q3 q4 rfl hb1 (.string s) rfl (Nat.le_trans hB r3.size) (by rw [List.length_map]; omega) (by rw [List.length_map]; omega)
  refine ⟨a', w1, b', w2, r1, r3, s1, r3.trans s3, ⟨?_, ?_, ?_⟩⟩
  · rw [List.map_append]; exact r2.kept s4 ha1.symm
  · rw [List.map_append]; exact s2
  · exact Apart.push r2 ha1.symm s5
end Go.Proofs.Ytlbjfigdocbffaa
