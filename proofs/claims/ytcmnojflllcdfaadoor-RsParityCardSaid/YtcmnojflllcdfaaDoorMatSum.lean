/- mat: two matrices, element by element. -/
import Derived.Test.YtcmnojflllcdfaaDoorMatLaw2
import Derived.Test.YtcmnojflllcdfaaDoorMRow
namespace Go.Proofs.YtcmnojflllcdfaaDoor
open Go.RowKit
set_option linter.unusedVariables false
set_option linter.unusedSimpArgs false

def bu (s : ByteArray) (j : Nat) : UInt8 := s.data[j]?.getD 0
theorem bu_toNat (s : ByteArray) (j : Nat) : (bu s j).toNat = bt s j := rfl
def xorEl (a b : List ByteArray) (i j : Nat) : UInt8 := UInt8.ofNat (bt (a.getD i ⟨#[]⟩) j ^^^ bt (b.getD i ⟨#[]⟩) j)
theorem xorEl_toNat (a b : List ByteArray) (i j : Nat) : (xorEl a b i j).toNat = bt (a.getD i ⟨#[]⟩) j ^^^ bt (b.getD i ⟨#[]⟩) j := by
  have := Gf.xor_lt (bt_lt (a.getD i ⟨#[]⟩) j) (bt_lt (b.getD i ⟨#[]⟩) j)
  rw [xorEl, UInt8.toNat_ofNat']; omega
def sumL (a b : List ByteArray) (m n : Nat) : List ByteArray := mkM (xorEl a b) m n
theorem sumL_rect (a b : List ByteArray) (m n : Nat) : Rect (sumL a b m n) m n := mkM_rect _ _ _
theorem sumL_el (a b : List ByteArray) {m n i j : Nat} (hi : i < m) (hj : j < n) : el (sumL a b m n) i j = el a i j + el b i j := by
  apply Mx.F.ext
  rw [sumL, mkM_el _ hi hj, xorEl_toNat]; rfl
/-- The first k bytes of a row, changed. -/
def chTo (f : Nat → UInt8) (l : List UInt8) (k : Nat) : List UInt8 := (List.range k).map f ++ l.drop k
theorem chTo_length (f : Nat → UInt8) (l : List UInt8) {k : Nat} (h : k ≤ l.length) : (chTo f l k).length = l.length := by simp [chTo]; omega
theorem chTo_zero (f : Nat → UInt8) (l : List UInt8) : chTo f l 0 = l := by simp [chTo]
theorem chTo_all (f : Nat → UInt8) (l : List UInt8) : chTo f l l.length = (List.range l.length).map f := by simp [chTo]
theorem chTo_at (f : Nat → UInt8) (l : List UInt8) {k : Nat} (h : k < l.length) : (chTo f l k).getD k 0 = l.getD k 0 := by
  simp only [chTo, List.getD_eq_getElem?_getD]
  rw [List.getElem?_append_right (by simp)]
  simp
theorem chTo_succ (f : Nat → UInt8) (l : List UInt8) {k : Nat} (h : k < l.length) : chTo f l (k + 1) = (chTo f l k).set k (f k) := by
  apply List.ext_getElem
  · rw [List.length_set, chTo_length _ _ (by omega), chTo_length _ _ (by omega)]
  · intro j h1 h2
    rw [chTo_length _ _ (by omega)] at h1
    rw [List.getElem_set]
    simp only [chTo, List.getElem_append, List.length_map, List.length_range, List.getElem_map, List.getElem_range, List.getElem_drop]
    by_cases e : k = j
    · subst e; rw [if_pos rfl, dif_pos (by omega)]
    · rw [if_neg e]
      by_cases e2 : j < k
      · rw [dif_pos (by omega), dif_pos e2]
      · rw [dif_neg (by omega), dif_neg e2]
        congr 1; omega
end Go.Proofs.YtcmnojflllcdfaaDoor
