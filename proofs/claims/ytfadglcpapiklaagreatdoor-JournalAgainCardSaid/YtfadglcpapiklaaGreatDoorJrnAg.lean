/- journal: to put a record twice is as to put it once. -/
import Derived.Test.YtfadglcpapiklaaGreatDoorJrnHead
namespace Go.Proofs.YtfadglcpapiklaaGreatDoor
open Go.RowKit
open Rc
set_option linter.unusedVariables false
set_option linter.unusedSimpArgs false
set_option maxRecDepth 100000

theorem mst_ext {X Y : Mst} (hf : X.fd = Y.fd) (hX : X.V = noV) (hY : Y.V = noV) (hl : X.L.length = Y.L.length) (ht : ∀ c, c < X.L.length → topM X c = topM Y c) : X = Y := by
  obtain ⟨f, L, V⟩ := X
  obtain ⟨f2, L2, V2⟩ := Y
  have hf : f = f2 := hf
  have hX : V = noV := hX
  have hY : V2 = noV := hY
  have hl : L.length = L2.length := hl
  subst hf
  subst hX
  subst hY
  have e : L = L2 := List.ext_getElem hl fun c h1 h2 => by
    have h3 : L.getD c zero128 = L2.getD c zero128 := ht c h1
    rwa [List.getD_eq_getElem?_getD, List.getD_eq_getElem?_getD, List.getElem?_eq_getElem h1, List.getElem?_eq_getElem h2] at h3
  rw [e]
theorem put_again {n sec k m i : Nat} {R R1 R2 : Rk} {B q : Int} {ss : List St} {l : List Int} (hl : ∀ x ∈ l, 0 ≤ x ∧ x < (n : Int)) (h1 : PutTo n sec k i q ss l R R1) (h2 : PutTo n sec k i q ss l R1 R2) : R2.M = R1.M := funext fun j => by
  by_cases hm : (j : Int) ∈ l ∧ (R.M j).fd = false
  · have hj : j < n := by have := hl _ hm.1; omega
    obtain ⟨b1, v1, t1⟩ := h1.bay j hj hm.1 hm.2
    obtain ⟨b2, v2, t2⟩ := h2.bay j hj hm.1 b1.al
    have l1 := h1.u.l j hj
    have l2 := h2.u.l j hj
    refine mst_ext (by rw [b1.al, b2.al]) v2 v1 (by rw [l1, l2]) fun c hc => ?_
    rw [l2] at hc
    by_cases hc0 : c = bayN k (q % 2).toNat
    · rw [hc0, b1.h, b2.h]
    · by_cases hc1 : bayN k (q % 2).toNat < c ∧ c < bayN k (q % 2).toNat + 1 + (allT ss).length
      · obtain ⟨t, rfl⟩ : ∃ t, c = bayN k (q % 2).toNat + 1 + t := ⟨c - (bayN k (q % 2).toNat + 1), by omega⟩
        rw [b1.b t (by omega), b2.b t (by omega)]
      · exact t2 c hc (by omega)
  · have e1 := h1.oth j (by
      rcases Classical.em ((j : Int) ∈ l) with z | z
      · right
        rcases Bool.eq_false_or_eq_true (R.M j).fd with y | y
        · exact y
        · exact absurd ⟨z, y⟩ hm
      · exact .inl z)
    refine h2.oth j ?_
    rcases Classical.em ((j : Int) ∈ l) with z | z
    · right
      rw [e1]
      rcases Bool.eq_false_or_eq_true (R.M j).fd with y | y
      · exact y
      · exact absurd ⟨z, y⟩ hm
    · exact .inl z
/-- Twice the acts. -/
theorem acts_again {n sec k i : Nat} {R1 R2 : Rk} {q : Int} {ss : List St} (hP1 : PutTo n sec k i q ss (allL n) (R00 sec) R1) (hP2 : PutTo n sec k i q ss (allL n) R1 R2) : R1.acts = (n : Int) * (((allT ss).length : Int) + 3) ∧ R2.acts = 2 * R1.acts := by
  have a1 := hP1.acts (fun _ _ => rfl)
  have a2 := hP2.acts (fun x hx => by
    obtain ⟨h0, h3⟩ := allL_mem.1 hx
    obtain ⟨j, rfl⟩ := Int.eq_ofNat_of_zero_le h0
    rw [Int.toNat_natCast]
    exact (hP1.bay j (by omega) hx rfl).1.al)
  rw [allL_len] at a1 a2
  have e0 : (R00 sec).acts = 0 := rfl
  rw [e0] at a1
  omega
end Go.Proofs.YtfadglcpapiklaaGreatDoor
