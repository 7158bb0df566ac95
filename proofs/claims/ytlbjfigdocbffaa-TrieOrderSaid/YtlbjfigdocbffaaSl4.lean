/- Lists that came in: what each place holds. -/
import Derived.Test.YtlbjfigdocbffaaSl2
namespace Go.Proofs.Ytlbjfigdocbffaa
open Go.RowKit
set_option linter.unusedVariables false
set_option linter.unusedSimpArgs false

/-- A list as it lies. -/
theorem Reads.items {α : Type} {w : World} {v : Value} {L : List α} {f : α → Value} (h : Reads w v (L.map f)) : ∃ a cap, v = .slice a L.length cap ∧ ∀ i (hi : i < L.length), ∃ cb co, a = some ⟨cb, co, none⟩ ∧ cb < w.heap.size ∧ w.cell? ⟨cb, co + i, none⟩ = some (f L[i]) := by
  rcases h with ⟨⟨a0, c0, rfl⟩, e⟩ | ⟨b, off, cap, rfl, h1, h2⟩
  · have : L = [] := by simpa using e
    subst this
    exact ⟨a0, c0, rfl, fun i hi => by simp at hi⟩
  · refine ⟨some ⟨b, off, none⟩, cap, by rw [List.length_map], fun i hi => ⟨b, off, rfl, h1, ?_⟩⟩
    rw [h2 i (by rw [List.length_map]; exact hi)]
    simp [List.getD_eq_getElem?_getD, hi]
theorem Reads.nums {w : World} {v : Value} {l : List Int} (h : Reads w v (l.map (.int .i64))) : ∃ a cap, v = .slice a l.length cap ∧ ∀ i, i < l.length → ∃ cb co, a = some ⟨cb, co, none⟩ ∧ cb < w.heap.size ∧ w.cell? ⟨cb, co + i, none⟩ = some (.int .i64 (l.getD i 0)) := by
  obtain ⟨a, cap, h1, h2⟩ := Reads.items h
  refine ⟨a, cap, h1, fun i hi => ?_⟩
  obtain ⟨cb, co, e1, e2, e3⟩ := h2 i hi
  exact ⟨cb, co, e1, e2, by rw [e3]; simp [List.getD_eq_getElem?_getD, hi]⟩
theorem Own.sameBlock {w w' : World} {B : Nat} {E : TypeId} {g n cap : Nat} {xs : List Value} (h : Own w B E (.slice (some ⟨g, 0, none⟩) n cap) xs) (e : w'.heap[g]? = w.heap[g]?) : Own w' B E (.slice (some ⟨g, 0, none⟩) n cap) xs := by
  refine ⟨h.o.1, ?_⟩
  rcases h.o.2 with h1 | ⟨g', cap', cur, h1, h2, h3, h4⟩
  · exact .inl h1
  · refine .inr ⟨g', cap', cur, h1, h2, ?_, h4⟩
    have : g = g' := by simp at h1; exact h1.1
    subst this
    rw [e]; exact h3
theorem Own.drewN {w : World} {B : Nat} {E : TypeId} {v : Value} {xs : List Value} (h : Own w B E v xs) (k : Nat) : Own (w.drewN k) B E v xs := ⟨h.o.1, h.o.2⟩
/-- A row by its places. -/
def rowV (n : Nat) (f : Nat → Value) : List Value := (List.range n).map f
theorem rowV_len (n : Nat) (f : Nat → Value) : (rowV n f).length = n := by simp [rowV]
theorem rowV_get (n : Nat) (f : Nat → Value) (i : Nat) (h : i < n) (d : Value) : (rowV n f).getD i d = f i := by simp [rowV, List.getD_eq_getElem?_getD, h]
theorem rowV_set (n : Nat) (f g : Nat → Value) (i : Nat) (v : Value) (hi : g i = v) (ho : ∀ j, j ≠ i → g j = f j) : (rowV n f).set i v = rowV n g := by
  apply List.ext_getElem
  · simp [rowV]
  · intro j h1 h2
    rw [List.getElem_set]
    simp only [rowV, List.getElem_map, List.getElem_range]
    by_cases e : i = j
    · subst e; rw [if_pos rfl, hi]
    · rw [if_neg e, ho j (fun x => e x.symm)]
theorem rowV_rep (n : Nat) (v : Value) : List.replicate n v = rowV n fun _ => v := by
  apply List.ext_getElem
  · simp [rowV]
  · intro j h1 h2; simp [rowV]
end Go.Proofs.Ytlbjfigdocbffaa
