/- mat: the chapter's examples. -/
import Derived.Test.YtcmnojflllcdfaaDoorMatSq
namespace Go.Proofs.YtcmnojflllcdfaaDoor
open Go.RowKit
set_option linter.unusedVariables false
set_option linter.unusedSimpArgs false

theorem Reads.lit (w : World) (E : TypeId) (xs : List Value) (cap : Nat) : Reads (w.alloc (.cells xs.toArray E)) (.slice (some ⟨w.heap.size, 0, none⟩) xs.length cap) xs := by
  refine .inr ⟨w.heap.size, 0, cap, rfl, by simp, fun i hi => ?_⟩
  rw [World.cell?_alloc_mark]
  simp [List.getD_eq_getElem?_getD, hi]
theorem Fits.small {l : List ByteArray} (h1 : l.length ≤ 1000) (h2 : ∀ i, i < l.length → (l.getD i ⟨#[]⟩).size ≤ 100000) : Fits l := ⟨by omega, fun i hi => by have := h2 i hi; omega⟩
theorem Rect.fits {l : List ByteArray} {m n : Nat} (h : Rect l m n) (h1 : m ≤ 1000) (h2 : n ≤ 100000) : Fits l := Fits.small (by rw [h.l]; exact h1) (fun i hi => by rw [h.s i (by rw [← h.l]; exact hi)]; exact h2)
theorem Fits.nil : Fits [] := Fits.small (by decide) (fun i hi => by simp at hi)
def cy21 : List ByteArray := [⟨#[1, 142]⟩]
def ex1 : List ByteArray := [⟨#[1, 0]⟩, ⟨#[1, 142]⟩]
def ex2 : List ByteArray := [⟨#[1, 0]⟩, ⟨#[2, 2]⟩]
def ex3 : List ByteArray := [⟨#[1, 1]⟩, ⟨#[1, 1]⟩]
def ex4 : List ByteArray := [⟨#[1, 0]⟩, ⟨#[0, 1]⟩]
theorem ex_fits : Fits cy21 ∧ Fits ex1 ∧ Fits ex2 ∧ Fits ex3 ∧ Fits ex4 := by
  refine ⟨Fits.small (by decide) ?_, Fits.small (by decide) ?_, Fits.small (by decide) ?_, Fits.small (by decide) ?_, Fits.small (by decide) ?_⟩ <;> decide
end Go.Proofs.YtcmnojflllcdfaaDoor
