/- mat's law: a product is made place by place. -/
import Derived.Test.YtcmnojflllcdfaaDoorMatLaw4
import Derived.Test.YtcmnojflllcdfaaDoorSl2
namespace Go.Proofs.YtcmnojflllcdfaaDoor
open Go.RowKit
set_option linter.unusedVariables false
set_option linter.unusedSimpArgs false

def wRow (r : ByteArray) (l : Nat) (i : Nat) : ByteArray := r.extract (i * l) (i * l + l)
def wL (r : ByteArray) (l c i : Nat) : ByteArray := (wRow r l i).extract 0 c
def wR (r : ByteArray) (l c i : Nat) : ByteArray := (wRow r l i).extract c (wRow r l i).size
theorem span_le {r : ByteArray} {l n i : Nat} (h : n * l ≤ r.size) (hi : i < n) : i * l + l ≤ r.size := by
  have := Nat.mul_le_mul_right l (show i + 1 ≤ n by omega)
  rw [Nat.add_mul, Nat.one_mul] at this
  omega
theorem wRow_size {r : ByteArray} {l n i : Nat} (h : n * l ≤ r.size) (hi : i < n) : (wRow r l i).size = l := by
  have := span_le h hi
  rw [wRow, ByteArray.size_extract]; omega
theorem firstL_get (f : Nat → ByteArray) {k i : Nat} (h : i < k) : (firstL f k).getD i ⟨#[]⟩ = f i := by
  simp [firstL, List.getD_eq_getElem?_getD, h]
theorem firstL_rect {f : Nat → ByteArray} {m n : Nat} (h : ∀ i, i < m → (f i).size = n) : Rect (firstL f m) m n := ⟨firstL_length f m, fun i hi => by rw [firstL_get f hi]; exact h i hi⟩
theorem bt_take (s : ByteArray) {c j : Nat} (h : j < c) (hc : c ≤ s.size) : bt (s.extract 0 c) j = bt s j := by
  simp only [bt, ByteArray.data_extract, Array.getElem?_extract]
  rw [if_pos (by simp; omega), Nat.zero_add]
theorem places_eq {a : List ByteArray} {r : ByteArray} {n l c i : Nat} (ra : Rect a n n) (h1 : 1 ≤ n) (h2 : n ≤ 16) (hl : n * l ≤ r.size) (hl2 : 2 ≤ l) (hl3 : l ≤ 50) (hc1 : 1 ≤ c) (hc2 : c < l) (hi : i < n) :
    (mulL a (firstL (wRow r l) n)).getD i ⟨#[]⟩ = (mulL a (firstL (wL r l c) n)).getD i ⟨#[]⟩ ++ (mulL a (firstL (wR r l c) n)).getD i ⟨#[]⟩ := by
  have rb : Rect (firstL (wRow r l) n) n l := firstL_rect fun i hi => wRow_size hl hi
  have rl : Rect (firstL (wL r l c) n) n c := firstL_rect fun i hi => by rw [wL, ByteArray.size_extract, wRow_size hl hi]; omega
  have rr : Rect (firstL (wR r l c) n) n (l - c) := firstL_rect fun i hi => by rw [wR, ByteArray.size_extract, wRow_size hl hi]; omega
  have o1 := mulOk_of ra rb h1 h2 h1 h2 (by omega) (by omega)
  have o2 := mulOk_of ra rl h1 h2 h1 h2 (by omega) (by omega)
  have o3 := mulOk_of ra rr h1 h2 h1 h2 (by omega) (by omega)
  have q1 := mulL_rect ra rb h1 o1
  have q2 := mulL_rect ra rl h1 o2
  have q3 := mulL_rect ra rr h1 o3
  refine text_ext (by rw [app_size, q1.s i hi, q2.s i hi, q3.s i hi]; omega) fun j hj => ?_
  rw [q1.s i hi] at hj
  rw [bt_append, q2.s i hi, ← el_v (mulL a (firstL (wRow r l) n)), mulL_el ra rb h1 o1 hi hj]
  by_cases hjc : j < c
  · rw [if_pos hjc, ← el_v (mulL a (firstL (wL r l c) n)), mulL_el ra rl h1 o2 hi hjc]
    congr 1
    refine Mx.mul_congr (fun _ _ => rfl) fun k hk => Mx.F.ext ?_
    rw [el_v, el_v, firstL_get _ hk, firstL_get _ hk, wL, bt_take _ hjc (by rw [wRow_size hl hk]; omega)]
  · rw [if_neg hjc, ← el_v (mulL a (firstL (wR r l c) n)), mulL_el ra rr h1 o3 hi (by omega)]
    show (Mx.S n _).v = (Mx.S n _).v
    congr 1
    refine Mx.S_congr fun k hk => ?_
    congr 1
    refine Mx.F.ext ?_
    rw [el_v, el_v, firstL_get _ hk, firstL_get _ hk, wR, bt_extract _ (by rw [wRow_size hl hk]; omega), show c + (j - c) = j by omega]
end Go.Proofs.YtcmnojflllcdfaaDoor
