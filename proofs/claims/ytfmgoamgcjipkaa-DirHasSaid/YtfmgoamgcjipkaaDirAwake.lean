/- dir's laws: the first calls' facts; plain. -/
import Derived.Test.YtfmgoamgcjipkaaDirSame
namespace Go.Proofs.Ytfmgoamgcjipkaa
open Go.RowKit
set_option linter.unusedVariables false
set_option linter.unusedSimpArgs false
open Dr

def vA : Vol := ⟨⟨#[97]⟩, 1, 0⟩
def vC : Vol := ⟨⟨#[99]⟩, 0, 4⟩
def vB : Vol := ⟨⟨#[98]⟩, 0, 0⟩
def vA0 : Vol := ⟨⟨#[97]⟩, 0, 0⟩
def vX : Vol := ⟨⟨#[66]⟩, 0, 0⟩
def L0 : List Vol := [vA, vC]
theorem l_a : lt ⟨#[97]⟩ ⟨#[99]⟩ = true := by unfold lt; rw [Lib.toList_data, Lib.toList_data]; rfl
theorem l_b : lt ⟨#[98]⟩ ⟨#[97]⟩ = false := by unfold lt; rw [Lib.toList_data, Lib.toList_data]; rfl
theorem l_c : lt ⟨#[98]⟩ ⟨#[99]⟩ = true := by unfold lt; rw [Lib.toList_data, Lib.toList_data]; rfl
theorem n_vol1 : nameB ⟨#[118, 111, 108, 49]⟩ = true := by kernel_rfl
theorem n_1a : nameB ⟨#[49, 97]⟩ = false := by kernel_rfl
theorem n_B : nameB ⟨#[66]⟩ = false := by kernel_rfl
theorem n_b : nameB ⟨#[98]⟩ = true := by kernel_rfl
theorem n_a : nameB ⟨#[97]⟩ = true := by kernel_rfl
theorem n_c : nameB ⟨#[99]⟩ = true := by kernel_rfl
theorem f_b : findN L0 ⟨#[98]⟩ = 2 := by kernel_rfl
theorem f_a : findN L0 ⟨#[97]⟩ = 0 := by kernel_rfl
theorem f_c : findN L0 ⟨#[99]⟩ = 1 := by kernel_rfl
theorem f_d : findN L0 ⟨#[100]⟩ = 2 := by kernel_rfl
theorem a_b : addE L0 vB = 0 ∧ (addL L0 vB).length = 3 := by
  have e : addE L0 vB = 0 := by unfold addE; rw [show nameB vB.n = true from n_b, if_pos rfl, show findN L0 vB.n = 2 from f_b]; rfl
  exact ⟨e, by rw [addL, if_pos e, ins_eq, ins_len]; rfl⟩
theorem a_a : addE L0 vA0 = 182 := by unfold addE; rw [show nameB vA0.n = true from n_a, if_pos rfl, show findN L0 vA0.n = 0 from f_a]; rfl
theorem a_X : addE L0 vX = 181 := by unfold addE; rw [show nameB vX.n = false from n_B]; rfl
theorem r_d : remE L0 ⟨#[100]⟩ = 183 := by rw [remE, f_d]; rfl
theorem fi_c : findI L0 ⟨#[99]⟩ = 1 := by rw [findI, f_c]; rfl
theorem right9 : rightB 9 L0 = true := (rightB_iff 9 L0).2 ⟨by decide, fun v hv => by
  simp [L0] at hv
  rcases hv with rfl | rfl
  · unfold volB; rw [show nameB vA.n = true from n_a]; rfl
  · unfold volB; rw [show nameB vC.n = true from n_c]; rfl, by
  refine List.Pairwise.cons (fun b hb => ?_) (List.pairwise_singleton _ _)
  simp at hb; subst hb; exact l_a⟩
theorem p_9 : putE 9 L0 = 0 := by rw [putE, right9]; rfl
theorem put_size {blocks : Int} {l : List Vol} (h : rightB blocks l = true) : (putL blocks l).size = 120 := by rw [putL, if_pos h, putS_size h]
theorem vols0 : VolsOk L0 := fun i hi => by
  have : i = 0 ∨ i = 1 := by simp [L0] at hi; omega
  rcases this with rfl | rfl <;> decide
end Go.Proofs.Ytfmgoamgcjipkaa
