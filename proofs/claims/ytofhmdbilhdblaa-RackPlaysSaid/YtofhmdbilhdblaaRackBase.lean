/- rack: members in slots. -/
import Derived.Test.YtofhmdbilhdblaaMemS
import Derived.Test.YtofhmdbilhdblaaMemSame
namespace Go.Proofs.Ytofhmdbilhdblaa
open Go.RowKit
set_option linter.unusedVariables false
set_option linter.unusedSimpArgs false
set_option maxRecDepth 100000

/-- What a member is. -/
structure Mst where
  fd : Bool
  L : List ByteArray
  V : Int → List ByteArray
/-- Where a rack's members lie. -/
structure RLay where
  q : Nat
  cap : Nat
  T : Nat → Nat → Prop
  m : Nat → Nat
  g : Nat → Nat
  bp : Nat → Nat
  cp : Nat → Nat
  F : Nat → Int → Value
def upd {α : Type} (f : Nat → α) (i : Nat) (v : α) : Nat → α := fun j => if j = i then v else f j
theorem upd_same {α : Type} (f : Nat → α) (i : Nat) (v : α) : upd f i v i = v := if_pos rfl
theorem upd_other {α : Type} (f : Nat → α) (i j : Nat) (v : α) (h : j ≠ i) : upd f i v j = f j := if_neg h
/-- A rack in memory. -/
structure RBox (w : World) (S : Nat → Prop) (k n : Nat) (Λ : RLay) (M : Nat → Mst) (off : Bool) (acts armed : Int) : Prop where
  b : w.heap[k]? = some (.cells #[.slice (some ⟨Λ.q, 0, none⟩) n Λ.cap, .bool off, .int .i64 acts, .int .i64 armed] 90 (0, 0))
  l : Own w 0 92 (.slice (some ⟨Λ.q, 0, none⟩) n Λ.cap) (rowV n fun i => .pointer (some ⟨Λ.m i, 0, none⟩))
  p : ∀ i, i < n → PBox w (Λ.T i) (Λ.m i) (Λ.g i) (Λ.bp i) (Λ.cp i) (M i).fd (M i).L (M i).V (Λ.F i)
  dj : ∀ i j x, i < n → j < n → i ≠ j → Λ.T i x → ¬ Λ.T j x
  tS : ∀ i x, i < n → Λ.T i x → S x ∧ x ≠ k ∧ x ≠ Λ.q
  sk : S k
  sq : S Λ.q
  kq : k ≠ Λ.q
  lt : ∀ x, S x → x < w.heap.size
  n1 : 1 ≤ n
  n7 : n ≤ 7
section
variable {w w' : World} {S : Nat → Prop} {k n : Nat} {Λ : RLay} {M : Nat → Mst} {off : Bool} {acts armed : Int}
theorem RBox.heap (h : RBox w S k n Λ M off acts armed) (e : ∀ x, S x → w'.heap[x]? = w.heap[x]?) (hs : w.heap.size ≤ w'.heap.size) : RBox w' S k n Λ M off acts armed :=
  ⟨(e k h.sk).trans h.b, h.l.sameBlock (e _ h.sq), fun i hi => (h.p i hi).heap (fun x hx => e x (h.tS i x hi hx).1) hs, h.dj, h.tS, h.sk, h.sq, h.kq, fun x hx => Nat.lt_of_lt_of_le (h.lt x hx) hs, h.n1, h.n7⟩
theorem RBox.below (h : RBox w S k n Λ M off acts armed) (hb : Below w.heap.size w w') : RBox w' S k n Λ M off acts armed := h.heap (fun x hx => hb.block x (h.lt x hx)) hb.size
theorem RBox.c0 (h : RBox w S k n Λ M off acts armed) : w.cell? ⟨k, 0, none⟩ = some (.slice (some ⟨Λ.q, 0, none⟩) n Λ.cap) := by simp [World.cell?, h.b]
theorem RBox.c1 (h : RBox w S k n Λ M off acts armed) : w.cell? ⟨k, 1, none⟩ = some (.bool off) := by simp [World.cell?, h.b]
theorem RBox.c2 (h : RBox w S k n Λ M off acts armed) : w.cell? ⟨k, 2, none⟩ = some (.int .i64 acts) := by simp [World.cell?, h.b]
theorem RBox.c3 (h : RBox w S k n Λ M off acts armed) : w.cell? ⟨k, 3, none⟩ = some (.int .i64 armed) := by simp [World.cell?, h.b]
theorem RBox.f (h : RBox w S k n Λ M off acts armed) (o : Nat) : w.frozen? ⟨k, o, none⟩ = false := by simp [World.frozen?, h.b]
theorem RBox.slot (h : RBox w S k n Λ M off acts armed) {i : Nat} (hi : i < n) : w.cell? ⟨Λ.q, i, none⟩ = some (.pointer (some ⟨Λ.m i, 0, none⟩)) := by
  rw [h.l.cell (i := i) (by rw [rowV_len]; exact hi), rowV_get _ _ _ hi]
/-- A cell of the rack's own is set. -/
theorem RBox.setK (h : RBox w S k n Λ M off acts armed) (o : Nat) (u : Value) (off' : Bool) (acts' armed' : Int)
    (e : (#[.slice (some ⟨Λ.q, 0, none⟩) n Λ.cap, .bool off, .int .i64 acts, .int .i64 armed] : Array Value).setIfInBounds o u = #[.slice (some ⟨Λ.q, 0, none⟩) n Λ.cap, .bool off', .int .i64 acts', .int .i64 armed']) :
    RBox (w.setCell ⟨k, o, none⟩ u) S k n Λ M off' acts' armed' ∧ Stp S S w (w.setCell ⟨k, o, none⟩ u) := by
  have k5 : ∀ x, x ≠ k → (w.setCell ⟨k, o, none⟩ u).heap[x]? = w.heap[x]? := fun x hx => Below.heap_setCell _ _ _ _ hx
  have k4 : (w.setCell ⟨k, o, none⟩ u).heap.size = w.heap.size := by simp
  refine ⟨⟨?_, h.l.sameBlock (k5 _ (Ne.symm h.kq)), fun i hi => (h.p i hi).heap (fun x hx => k5 x (h.tS i x hi hx).2.1) (by omega), h.dj, h.tS, h.sk, h.sq, h.kq, fun x hx => by rw [k4]; exact h.lt x hx, h.n1, h.n7⟩, ⟨⟨rfl, rfl, rfl, by omega, fun x hx => absurd hx (Nat.not_lt_zero _)⟩, fun x _ hn => k5 x (fun e => hn (e ▸ h.sk)), fun x hx => .inl hx⟩⟩
  simp [World.setCell, Array.getElem?_modify, h.b, e]
/-- Where it lies behind a step of member i. -/
def RLay.put (Λ : RLay) (i : Nat) (T : Nat → Prop) (g bp cp : Nat) (F : Int → Value) : RLay := { Λ with T := upd Λ.T i T, g := upd Λ.g i g, bp := upd Λ.bp i bp, cp := upd Λ.cp i cp, F := upd Λ.F i F }
/-- A step of member i. -/
theorem RBox.turn (h : RBox w S k n Λ M off acts armed) {i : Nat} (hi : i < n) {T' : Nat → Prop} {g bp cp : Nat} {F : Int → Value} {st : Mst} (hs : Stp (Λ.T i) T' w w') (hp : PBox w' T' (Λ.m i) g bp cp st.fd st.L st.V F) :
    ∃ S', Stp S S' w w' ∧ RBox w' S' k n (Λ.put i T' g bp cp F) (upd M i st) off acts armed := by
  have old : ∀ x, x < w.heap.size → ¬ Λ.T i x → w'.heap[x]? = w.heap[x]? := hs.oth
  have kT : ¬ Λ.T i k := fun z => (h.tS i k hi z).2.1 rfl
  have qT : ¬ Λ.T i Λ.q := fun z => (h.tS i _ hi z).2.2 rfl
  have kl := h.lt k h.sk
  have ql := h.lt _ h.sq
  have hsz := hs.b0.size
  refine ⟨fun x => S x ∨ (w.heap.size ≤ x ∧ T' x), ⟨hs.b0, fun x hx hn => old x hx (fun z => hn (h.tS i x hi z).1), fun x hx => hx.imp id And.left⟩,
    ⟨(old k kl kT).trans h.b, h.l.sameBlock (old _ ql qT), fun j hj => ?_, fun a b x ha hb hne hx => ?_, fun j x hj hx => ?_, .inl h.sk, .inl h.sq, h.kq, fun x hx => ?_, h.n1, h.n7⟩⟩
  · by_cases e : j = i
    · subst e
      simp only [RLay.put, upd_same]
      exact hp
    · simp only [RLay.put, upd_other _ _ _ _ e]
      exact (h.p j hj).apart hs (fun x hx => h.dj j i x hj hi e hx)
  · simp only [RLay.put] at hx ⊢
    have tl : ∀ j, j < n → j ≠ i → ∀ x, Λ.T j x → ¬ T' x := fun j hj hne x hx hx' => by
      rcases hs.grow x hx' with z | z
      · exact h.dj j i x hj hi hne hx z
      · have := h.lt x (h.tS j x hj hx).1; omega
    by_cases e : a = i
    · subst e
      rw [upd_same] at hx
      rw [upd_other _ _ _ _ (Ne.symm hne)]
      exact fun z => tl b hb (Ne.symm hne) x z hx
    · rw [upd_other _ _ _ _ e] at hx
      by_cases e2 : b = i
      · subst e2; rw [upd_same]; exact tl a ha e x hx
      · rw [upd_other _ _ _ _ e2]; exact h.dj a b x ha hb hne hx
  · simp only [RLay.put] at hx ⊢
    by_cases e : j = i
    · subst e
      rw [upd_same] at hx
      rcases hs.grow x hx with z | z
      · exact ⟨.inl (h.tS j x hj z).1, (h.tS j x hj z).2⟩
      · exact ⟨.inr ⟨z, hx⟩, by omega, by omega⟩
    · rw [upd_other _ _ _ _ e] at hx
      exact ⟨.inl (h.tS j x hj hx).1, (h.tS j x hj hx).2⟩
  · rcases hx with z | z
    · exact Nat.lt_of_lt_of_le (h.lt x z) hsz
    · exact hp.lt x z.2
/-- The same where no block was taken. -/
theorem RBox.turnS (h : RBox w S k n Λ M off acts armed) {i : Nat} (hi : i < n) {g bp cp : Nat} {F : Int → Value} {st : Mst} (hs : Stp (Λ.T i) (Λ.T i) w w') (hp : PBox w' (Λ.T i) (Λ.m i) g bp cp st.fd st.L st.V F) :
    Stp S S w w' ∧ RBox w' S k n (Λ.put i (Λ.T i) g bp cp F) (upd M i st) off acts armed := by
  obtain ⟨S', h1, h2⟩ := h.turn hi hs hp
  have hS : Stp S S w w' := ⟨h1.b0, h1.oth, fun x hx => .inl hx⟩
  refine ⟨hS, ⟨h2.b, h2.l, h2.p, h2.dj, fun j x hj hx => ⟨?_, (h2.tS j x hj hx).2⟩, h.sk, h.sq, h.kq, fun x hx => Nat.lt_of_lt_of_le (h.lt x hx) h1.b0.size, h.n1, h.n7⟩⟩
  simp only [RLay.put] at hx
  by_cases e : j = i
  · subst e; rw [upd_same] at hx; exact (h.tS j x hj hx).1
  · rw [upd_other _ _ _ _ e] at hx; exact (h.tS j x hj hx).1
end
/-- A rack that was made behind w, of the blocks S. -/
structure RS (w : World) (S : Nat → Prop) (w' : World) (k n : Nat) (M : Nat → Mst) (off : Bool) (acts armed : Int) : Prop where
  b : Below w.heap.size w w'
  f : ∀ x, S x → w.heap.size ≤ x
  h : ∃ Λ, RBox w' S k n Λ M off acts armed
section
variable {w w1 w2 : World} {S S' T T' : Nat → Prop} {k n : Nat} {M : Nat → Mst} {off : Bool} {acts armed : Int}
theorem RS.lt (h : RS w S w1 k n M off acts armed) : ∀ x, S x → x < w1.heap.size := by obtain ⟨Λ, h1⟩ := h.h; exact h1.lt
theorem RS.after (h : RS w S w1 k n M off acts armed) (hb : Below w1.heap.size w1 w2) : RS w S w2 k n M off acts armed := by
  obtain ⟨Λ, h1⟩ := h.h
  exact ⟨h.b.trans (hb.mono h.b.size), h.f, Λ, h1.below hb⟩
theorem RS.other (h : RS w S w1 k n M off acts armed) (hb : Below w.heap.size w1 w2) (hk : ∀ x, S x → w2.heap[x]? = w1.heap[x]?) : RS w S w2 k n M off acts armed := by
  obtain ⟨Λ, h1⟩ := h.h
  exact ⟨h.b.trans hb, h.f, Λ, h1.heap hk hb.size⟩
theorem RS.step (h : RS w S w1 k n M off acts armed) (hs : Stp T T' w1 w2) (hT : ∀ x, T x → w.heap.size ≤ x) (hST : ∀ x, S x → ¬ T x) : RS w S w2 k n M off acts armed ∧ ∀ x, S x → ¬ T' x := by
  obtain ⟨Λ, h1⟩ := h.h
  exact ⟨⟨h.b.trans (hs.below hT h.b.size), h.f, Λ, h1.heap (fun x hx => hs.oth x (h1.lt x hx) (hST x hx)) hs.b0.size⟩, fun x hx hx2 => by
    rcases hs.grow x hx2 with z | z
    · exact hST x hx z
    · have := h1.lt x hx; omega⟩
theorem RS.setO (h : RS w S w1 k n M off acts armed) {x : Nat} (hx : w.heap.size ≤ x) (hS : ¬ S x) (i : Nat) (u : Value) : RS w S (w1.setCell ⟨x, i, none⟩ u) k n M off acts armed :=
  h.other ((Below.refl _ _).setCell (p := ⟨x, i, none⟩) hx u) (fun y hy => Below.heap_setCell _ _ _ _ (fun e => hS (by have e2 : y = x := e; rw [← e2]; exact hy)))
end
end Go.Proofs.Ytofhmdbilhdblaa

