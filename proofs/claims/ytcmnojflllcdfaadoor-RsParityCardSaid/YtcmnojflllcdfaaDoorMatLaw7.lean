/- mat's laws: matrices are made, multiplied and undone as the document says. -/
import Derived.Test.YtcmnojflllcdfaaDoorMatRef3
namespace Go.Proofs.YtcmnojflllcdfaaDoor
open Go.RowKit
set_option linter.unusedVariables false
set_option linter.unusedSimpArgs false

theorem cyL_rect (k m : Int) : ∃ a b, a ≤ 16 ∧ b ≤ 16 ∧ Rect (cyL k m) a b := by
  rw [cyL]
  cases h1 : fitsB k <;> cases h2 : fitsB m
  · exact ⟨0, 0, by omega, by omega, rfl, fun i hi => by omega⟩
  · exact ⟨0, 0, by omega, by omega, rfl, fun i hi => by omega⟩
  · exact ⟨0, 0, by omega, by omega, rfl, fun i hi => by omega⟩
  · refine ⟨m.toNat, k.toNat, ?_, ?_, mkM_rect _ _ _⟩
    · simp [fitsB] at h2; omega
    · simp [fitsB] at h1; omega
theorem idL_rect (n : Int) : ∃ a, a ≤ 16 ∧ Rect (idL n) a a := by
  rw [idL]
  cases h1 : fitsB n
  · exact ⟨0, by omega, rfl, fun i hi => by omega⟩
  · refine ⟨n.toNat, ?_, mkM_rect _ _ _⟩
    simp [fitsB] at h1; omega
theorem mulL_fits (a b : List ByteArray) : Fits (mulL a b) := by
  rw [mulL]
  split
  · rename_i h
    unfold mulOk at h
    simp only [Bool.and_eq_true] at h
    obtain ⟨⟨h1, h2⟩, h3⟩ := h
    obtain ⟨k1, k2, k3, k4, k5⟩ := mR_facts h1
    obtain ⟨l1, l2, l3, l4, l5⟩ := mR_facts h2
    refine Fits.small (by rw [List.length_map]; omega) fun i hi => ?_
    rw [List.length_map] at hi
    rw [List.getD_eq_getElem?_getD, List.getElem?_map, List.getElem?_eq_getElem hi]
    show (comb _ b b.length).size ≤ _
    rw [comb_size]; omega
  · exact Fits.nil
theorem invL_fits (a : List ByteArray) : Fits (invL a) := by
  by_cases h : sqB a = true
  · obtain ⟨h1, h2, h3, h4⟩ := sqB_facts h
    rcases inv_cases ⟨rfl, h4⟩ h2 h3 with ⟨_, r, _⟩ | ⟨_, r, _⟩
    · exact r.fits (by omega) (by omega)
    · rw [r]; exact Fits.nil
  · rw [invL, if_neg h]; exact Fits.nil
theorem mR_long {l : List ByteArray} (h : 16 < l.length) : mR l = false := by unfold mR; rw [decide_eq_false (by omega)]; rfl
end Go.Proofs.YtcmnojflllcdfaaDoor
