/- journal: what one slot tells behind a Put. -/
import Derived.Test.YtfadglcpapiklaaGreatDoorJrnHead
namespace Go.Proofs.YtfadglcpapiklaaGreatDoor
open Go.RowKit
open Rc
set_option linter.unusedVariables false
set_option linter.unusedSimpArgs false
set_option maxRecDepth 100000

theorem best_one {n sec k m i j : Nat} {R R' : Rk} {B q : Int} {ss : List St} {l : List Int} (hG : Gm n sec k m B) (hU : Up n sec R) (hr : rightB (k : Int) (m : Int) B q ss = true) (i1 : 1 ≤ i) (i2 : i ≤ 65535) (hZ : Zer n sec R) (hP : PutTo n sec k i q ss l R R') (hj : j < n) :
    bestM n R' (i : Int) (k : Int) (m : Int) B [(j : Int)] = if (j : Int) ∈ l ∧ (R.M j).fd = false then some (q, ss.map pr) else none := by
  have tl := fun c (hc : c < 2) => put_tell hG hU hr i1 i2 hZ hP hj hc
  split
  · next h =>
    refine best_only (fun x hx c hc => ?_) ⟨(j : Int), List.mem_singleton.2 rfl, (q % 2).toNat, by omega, ?_⟩
    · rw [List.mem_singleton.1 hx, tl c hc]
      split
      · exact .inr rfl
      · exact .inl rfl
    · rw [tl _ (by omega), if_pos ⟨h, rfl⟩]
  · next h =>
    refine best_no fun x hx c hc => ?_
    rw [List.mem_singleton.1 hx, tl c hc, if_neg (fun z => h z.1)]
/-- All slots, of which some have failed. -/
theorem best_all {n sec k m i : Nat} {R R' : Rk} {B q : Int} {ss : List St} {l : List Int} (hG : Gm n sec k m B) (hU : Up n sec R) (hr : rightB (k : Int) (m : Int) B q ss = true) (i1 : 1 ≤ i) (i2 : i ≤ 65535) (hZ : Zer n sec R) (hP : PutTo n sec k i q ss l R R') (hex : ∃ j : Nat, j < n ∧ (j : Int) ∈ l ∧ (R.M j).fd = false) :
    bestM n R' (i : Int) (k : Int) (m : Int) B (allL n) = some (q, ss.map pr) := by
  have tl := fun j c (hj : j < n) (hc : c < 2) => put_tell hG hU hr i1 i2 hZ hP hj hc
  obtain ⟨y, hy, hm, hal⟩ := hex
  refine best_only (fun x hx c hc => ?_) ⟨(y : Int), allL_mem.2 (by omega), (q % 2).toNat, by omega, ?_⟩
  · obtain ⟨h0, h3⟩ := allL_mem.1 hx
    obtain ⟨j, rfl⟩ := Int.eq_ofNat_of_zero_le h0
    rw [tl j c (by omega) hc]
    split
    · exact .inr rfl
    · exact .inl rfl
  · rw [tl y _ hy (by omega), if_pos ⟨⟨hm, hal⟩, rfl⟩]
theorem up_fail {n sec : Nat} {R : Rk} (hU : Up n sec R) (M : Nat → Mst) (hM : ∀ j, (M j).L = (R.M j).L) (ac : Int) : Up n sec ⟨M, false, ac, 0⟩ := ⟨rfl, rfl, hU.n1, hU.n7, fun j hj => by
  show (M j).L.length = sec
  rw [hM]; exact hU.l j hj⟩
theorem zer_fail {n sec : Nat} {R : Rk} (hZ : Zer n sec R) (M : Nat → Mst) (hM : ∀ j, (M j).L = (R.M j).L ∧ (M j).V = (R.M j).V) (o : Bool) (ac ar : Int) : Zer n sec ⟨M, o, ac, ar⟩ := fun j hj c hc => by
  show topM (M j) c = zero128
  have := hZ j hj c hc
  unfold topM at this ⊢
  rw [(hM j).1, (hM j).2]; exact this
end Go.Proofs.YtfadglcpapiklaaGreatDoor
