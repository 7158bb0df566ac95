/- member: MemberReads. -/
import Derived.Test.YtbokglifgacodaaMemLaw1
namespace Go.Proofs.Ytbokglifgacodaa
open Go.RowKit
set_option linter.unusedVariables false
set_option linter.unusedSimpArgs false

/-- A member that was made behind w, and a block x beside it. -/
structure MBx (w : World) (w' : World) (x m g bp cap : Nat) (L : List ByteArray) (V : Int → List ByteArray) : Prop where
  b : Below w.heap.size w w'
  h : ∃ S F, (∀ k, S k → w.heap.size ≤ k) ∧ ¬ S x ∧ PBox w' S m g bp cap false L V F
  lt : x < w'.heap.size
  xb : w.heap.size ≤ x
section
variable {w w1 w2 : World} {x m g bp cap : Nat} {L : List ByteArray} {V : Int → List ByteArray}
theorem MBx.mb (h : MBx w w1 x m g bp cap L V) : MB w w1 m g bp cap L V := by
  obtain ⟨S, F, h1, _, h2⟩ := h.h
  exact ⟨h.b, S, F, h1, h2⟩
theorem MBx.after (h : MBx w w1 x m g bp cap L V) (hb : Below w1.heap.size w1 w2) : MBx w w2 x m g bp cap L V := by
  obtain ⟨S, F, h1, hx, h2⟩ := h.h
  exact ⟨h.b.trans (hb.mono h.b.size), ⟨S, F, h1, hx, h2.below hb⟩, Nat.lt_of_lt_of_le h.lt hb.size, h.xb⟩
theorem MB.mbx (h : MB w w1 m g bp cap L V) (hb : Below w1.heap.size w1 w2) (hx : w1.heap.size ≤ x) (hl : x < w2.heap.size) : MBx w w2 x m g bp cap L V := by
  obtain ⟨S, F, h1, h2⟩ := h.h
  exact ⟨h.b.trans (hb.mono h.b.size), ⟨S, F, h1, fun hs => by have := h2.lt x hs; omega, h2.below hb⟩, hl, Nat.le_trans h.b.size hx⟩
theorem MBx.set (h : MBx w w1 x m g bp cap L V) (i : Nat) (u : Value) : MBx w (w1.setCell ⟨x, i, none⟩ u) x m g bp cap L V := by
  obtain ⟨S, F, h1, hx, h2⟩ := h.h
  exact ⟨h.b.setCell (p := ⟨x, i, none⟩) h.xb u, ⟨S, F, h1, hx, h2.heap (fun k hk => Below.heap_setCell _ _ _ _ (fun e => hx (by have e2 : k = x := e; rw [← e2]; exact hk))) (by simp)⟩, by simpa using h.lt, h.xb⟩
theorem mbx_write (h : MBx w w1 x m g bp cap L V) (i : Nat) (hi : i < L.length) (s : ByteArray) (hs : s.size = 128) (hv : (V i).length ≤ 1000000000000) :
    Calls Try.prog 14 #[.pointer (some ⟨m, 0, none⟩), .int .i64 (i : Int), .string s] w1 fun e w' => e = .returned (.int .i64 0) ∧ MBx w w' x m g bp cap L (updZ V i (V i ++ [s])) ∧ w'.heap[x]? = w1.heap[x]? := by
  obtain ⟨S, F, h1, hx, h2⟩ := h.h
  refine (write_any h2 i hi s hs hv).mono fun e w' ⟨he, S', F', hst, hp⟩ => ⟨he, ⟨h.b.trans (hst.below h1 h.b.size), ⟨S', F', fun k hk => ?_, fun hk => ?_, hp⟩, Nat.lt_of_lt_of_le h.lt hst.b0.size, h.xb⟩, hst.oth x h.lt hx⟩
  · rcases hst.grow k hk with y | y
    · exact h1 k y
    · exact Nat.le_trans h.b.size y
  · rcases hst.grow x hk with y | y
    · exact hx y
    · have := h.lt; omega
end
/-- What was written last, of each of eight. -/
def Lasts (V : Int → List ByteArray) (l : List ByteArray) (k : Nat) : Prop := l.length = 8 ∧ (∀ i : Nat, i < 8 → lastOf (V i) zero128 = l.getD i zero128) ∧ ∀ z, (V z).length ≤ k
theorem Lasts.write {V : Int → List ByteArray} {l : List ByteArray} {k : Nat} (h : Lasts V l k) (i : Nat) (hi : i < 8) (s : ByteArray) : Lasts (updZ V i (V i ++ [s])) (l.set i s) (k + 1) := by
  obtain ⟨h1, h2, h3⟩ := h
  refine ⟨by rw [List.length_set]; exact h1, fun j hj => ?_, fun z => ?_⟩
  · by_cases e : i = j
    · subst e
      rw [updZ_same, List.getD_eq_getElem?_getD, List.getElem?_set, if_pos rfl, if_pos (by omega)]
      unfold lastOf; simp
    · rw [updZ_other _ _ _ _ (by omega), List.getD_eq_getElem?_getD, List.getElem?_set, if_neg e, ← List.getD_eq_getElem?_getD]
      exact h2 j hj
  · unfold updZ
    by_cases e : z = (i : Int)
    · rw [if_pos e, List.length_append]; have := h3 i; simp; omega
    · rw [if_neg e]; have := h3 z; omega
theorem Lasts.mono {V : Int → List ByteArray} {l : List ByteArray} {k j : Nat} (h : Lasts V l k) (hj : k ≤ j) : Lasts V l j := ⟨h.1, h.2.1, fun z => Nat.le_trans (h.2.2 z) hj⟩
theorem Lasts.start (k : Nat) : Lasts noV (List.replicate 8 zero128) k := ⟨by simp, fun i hi => by rw [List.getD_eq_getElem?_getD, List.getElem?_replicate, if_pos hi]; rfl, fun z => by simp [noV]⟩
def filS (k : Nat) : List Value := (List.range 8).map fun j => if j < k then .string zero128 else .string ⟨#[]⟩
theorem filS_len (k : Nat) : (filS k).length = 8 := by simp [filS]
theorem filS_zero : filS 0 = List.replicate 8 (.string ⟨#[]⟩) := rfl
theorem filS_all : filS 8 = (List.replicate 8 zero128).map .string := rfl
theorem filS_set (k : Nat) (h : k < 8) : (filS k).set k (.string zero128) = filS (k + 1) := by
  rcases (by omega : k = 0 ∨ k = 1 ∨ k = 2 ∨ k = 3 ∨ k = 4 ∨ k = 5 ∨ k = 6 ∨ k = 7) with rfl | rfl | rfl | rfl | rfl | rfl | rfl | rfl <;> rfl
end Go.Proofs.Ytbokglifgacodaa

