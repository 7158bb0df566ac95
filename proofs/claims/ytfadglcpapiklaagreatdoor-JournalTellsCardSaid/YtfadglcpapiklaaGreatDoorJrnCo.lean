/- journal: what a slot tells one of whose sectors is rotten. -/
import Derived.Test.YtfadglcpapiklaaGreatDoorJrnHead
namespace Go.Proofs.YtfadglcpapiklaaGreatDoor
open Go.RowKit
open Rc
set_option linter.unusedVariables false
set_option linter.unusedSimpArgs false
set_option maxRecDepth 100000

theorem bay_rotten {n sec k m i j t : Nat} {R : Rk} {B q : Int} {ss : List St} (hG : Gm n sec k m B) (hU : Up n sec R) (hr : rightB (k : Int) (m : Int) B q ss = true) (i1 : 1 ≤ i) (i2 : i ≤ 65535) (hj : j < n) (hal : (R.M j).fd = false) (ht : t ≤ (allT ss).length) (hh : t ≠ 0 → topM (R.M j) (bayN k (q % 2).toNat) = secS i j (bayN k (q % 2).toNat) (layS q ss)) (hs : openOk (i : Int) (j : Int) ((bayN k (q % 2).toNat + t : Nat) : Int) (topM (R.M j) (bayN k (q % 2).toNat + t)) = false) :
    bayM n R (i : Int) (k : Int) (m : Int) B (j : Int) (q % 2).toNat = none := by
  have hP := hG.plc hr i1 i2
  have hsz := hP.sz
  have hl := hU.l j hj
  have hsh : srB n R (i : Int) (j : Int) ((bayN k (q % 2).toNat + t : Nat) : Int) = false := sr_shut (top_holds12 hU.off hj hal (by omega)) hs
  by_cases h0 : t = 0
  · subst h0
    exact cand_none hG (by omega) hsh
  · obtain ⟨s, rfl⟩ : ∃ s, t = s + 1 := ⟨t - 1, by omega⟩
    obtain ⟨s1, s2⟩ := hP.head hj hU.off hl hal (hh h0)
    have hL := hP.laid
    have hlk := look_body (K := (k : Int)) (M := (m : Int)) (B := B) s1 (by
      rw [s2]
      exact ⟨hL.t, by rw [hL.q]; exact hP.g⟩) (k := s) (by rw [s2, hP.c]; omega) (by
      unfold lkB
      rw [show (bayN k (q % 2).toNat : Int) + 1 + (s : Int) = ((bayN k (q % 2).toNat + (s + 1) : Nat) : Int) by omega]
      exact hsh)
    unfold bayM
    rw [bay_head hG _ (by omega), hlk]
    exact cand_nil _ _
end Go.Proofs.YtfadglcpapiklaaGreatDoor
