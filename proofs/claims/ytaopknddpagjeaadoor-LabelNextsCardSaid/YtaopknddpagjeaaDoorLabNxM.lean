/- label: the nexts of a right label, told. -/
import Derived.Test.YtaopknddpagjeaaDoorLabFitM
import Derived.Test.YtaopknddpagjeaaDoorLabBox
import Derived.Test.YtaopknddpagjeaaDoorLabChoM
namespace Go.Proofs.YtaopknddpagjeaaDoor
open Go.RowKit
set_option linter.unusedVariables false
set_option linter.unusedSimpArgs false
open Lb

theorem mask_all : ∀ (n : Nat) (l : List Int), mask (List.replicate n true) l = l
  | 0, l => mask_nil l
  | _ + 1, [] => rfl
  | n + 1, a :: l => by simp only [List.replicate_succ, mask, mask_all n l, if_true]
theorem mask_rng {lo hi : Int} (h0 : lo ≤ 0) (h1 : 0 ≤ hi) : ∀ (us : List Bool) (l : List Int), (∀ n ∈ l, lo ≤ n ∧ n ≤ hi) → ∀ n ∈ mask us l, lo ≤ n ∧ n ≤ hi
  | [], l, h => by rw [mask_nil]; exact h
  | _ :: _, [], _ => by intro n hn; simp [mask] at hn
  | u :: us, a :: l, h => by
    intro n hn
    rcases List.mem_cons.1 hn with e | e
    · subst e; split
      · exact h a (List.mem_cons_self ..)
      · exact ⟨h0, h1⟩
    · exact mask_rng h0 h1 us l (fun n hn => h n (List.mem_cons_of_mem _ hn)) n e
theorem rt_num {x : Lbl} (h : Rt x) : 0 ≤ nT x := by
  unfold nT gStripes; split
  · rename_i hg
    obtain ⟨h1, h2, h3, h4, h5, h6⟩ := gR_true hg
    have := div_rng ⟨h1, h2⟩ ⟨h5, h6⟩
    omega
  · exact Int.le_refl _
/-- The next of a right label is right. -/
theorem nexted_ok {x : Lbl} (h : rightB x = true) (hg : x.g < 1099511627776) (us : List Bool) : rightB (nexted x us) = true := by
  have r := (right_iff x).1 h
  have hT := rt_num r
  refine (right_iff _).2 ⟨r.i, r.s, ?_, ?_, r.bo, ?_, ?_, ?_, ?_⟩
  · show 1 ≤ x.g + 1 ∧ x.g + 1 ≤ 1099511627776; have := r.g; omega
  · show ((mask us x.st).length : Int) = nS x; rw [mask_len]; exact r.st
  · show ((mask us x.cu).length : Int) = nS x; rw [mask_len]; exact r.cu
  · exact mask_rng (by omega) (by omega) us x.st r.sts
  · intro n hn; have := r.bos n hn; show 0 ≤ n ∧ n ≤ x.g + 1; omega
  · exact mask_rng (by omega) hT us x.cu r.cus
theorem nxB_ok {x : Lbl} (h : rightB x = true) (hg : x.g < 1099511627776) {us : List Bool} (hu : us.length = x.st.length) : nxB x us = true := by
  unfold nxB
  rw [h, decide_eq_true hu]
  have : ¬ x.g = 1099511627776 := by omega
  simp [this]
theorem nextL_ok {x : Lbl} (h : rightB x = true) (hg : x.g < 1099511627776) {us : List Bool} (hu : us.length = x.st.length) : nextL x us = nexted x us ∧ nextE x us = 0 := by
  unfold nextL nextE; rw [nxB_ok h hg hu]; exact ⟨rfl, rfl⟩
theorem nexted_all (x : Lbl) (n : Nat) : { nexted x (List.replicate n true) with g := x.g } = x := by
  show { x with g := x.g, st := mask _ x.st, cu := mask _ x.cu } = x
  rw [mask_all, mask_all]
theorem fit_small (r : Lbl) (h : 0 ≤ r.g ∧ r.g < 549755813888) : (fitL r).g = 1 + r.g := by
  show 1 + pk r.g 1099511627776 = _
  unfold pk; rw [if_neg (by omega), Int.emod_eq_of_lt h.1 (by omega)]
/-- The chain of nexts: usable places of each round. -/
structure NxOk (x : Lbl) (k : Nat) (y : Lbl) : Prop where
  r : rightB y = true
  g : y.g = x.g + k
  l : y.st.length = x.st.length
theorem NxOk.step {x y : Lbl} {k : Nat} (h : NxOk x k y) (hx : x.g + k < 1099511627776) (us : List Bool) : NxOk x (k + 1) (nexted y us) :=
  ⟨nexted_ok h.r (by rw [h.g]; exact hx) us, by show y.g + 1 = _; rw [h.g]; omega, by show (mask us y.st).length = _; rw [mask_len]; exact h.l⟩
/-- The places, all usable, laid up to k. -/
def allTo (n k : Nat) : List Value := rowV n fun i => .bool (decide (i < k))
theorem allTo_zero (n : Nat) : List.replicate n (Value.bool false) = allTo n 0 := by rw [allTo, rowV_rep]; congr 1
theorem allTo_step (n k : Nat) : (allTo n k).set k (.bool true) = allTo n (k + 1) := by
  refine rowV_set _ _ _ _ _ (by simp) fun j hj => ?_
  have : decide (j < k + 1) = decide (j < k) := by rw [decide_eq_decide]; omega
  rw [this]
theorem allTo_all (n : Nat) : allTo n n = (List.replicate n true).map .bool := by
  rw [List.map_replicate]
  unfold allTo rowV
  refine List.ext_getElem (by simp) fun i h1 h2 => ?_
  have : i < n := by simpa using h2
  simp [this]
end Go.Proofs.YtaopknddpagjeaaDoor
