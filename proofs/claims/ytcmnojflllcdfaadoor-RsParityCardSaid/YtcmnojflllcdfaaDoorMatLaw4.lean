/- mat's law: a square whose rows hang on one another has no inverse. -/
import Derived.Test.YtcmnojflllcdfaaDoorMatLaw3
namespace Go.Proofs.YtcmnojflllcdfaaDoor
open Go.RowKit
set_option linter.unusedVariables false
set_option linter.unusedSimpArgs false

theorem singular_of {a : List ByteArray} {n c : Nat} (h : Rect a n n) (h1 : 1 ≤ n) (h2 : n ≤ 16) (u : Nat → Mx.F) (hc : c < n) (hu : u c ≠ 0) (hs : ∀ j, j < n → Mx.S n (fun k => u k * el a k j) = 0) : invE a = 21 ∧ invL a = [] := by
  rcases inv_cases h h1 h2 with ⟨_, _, _, k2⟩ | ⟨e1, e2, _⟩
  · exact absurd (Mx.no_cokernel k2 hs hc) hu
  · exact ⟨e1, e2⟩
theorem S_pick {n i : Nat} (h : i < n) (f : Nat → Mx.F) : Mx.S n (fun k => Mx.one i k * f k) = f i := by
  rw [Mx.S_one h (fun k _ hk => by rw [Mx.one_other (Ne.symm hk), Mx.zero_mul]), Mx.one_self, Mx.one_mul]
theorem set_rect {a : List ByteArray} {n i : Nat} (h : Rect a n n) (r : ByteArray) (hr : r.size = n) : Rect (a.set i r) n n := by
  refine ⟨by rw [List.length_set, h.l], fun k hk => ?_⟩
  rw [List.getD_eq_getElem?_getD, List.getElem?_set]
  by_cases e : i = k
  · subst e; rw [if_pos rfl, if_pos (by rw [h.l]; exact hk)]; exact hr
  · rw [if_neg e, ← List.getD_eq_getElem?_getD]; exact h.s k hk
theorem set_same {a : List ByteArray} {n i : Nat} (h : Rect a n n) (hi : i < n) (r : ByteArray) (j : Nat) : (el (a.set i r) i j).v = bt r j := by
  rw [el_v, List.getD_eq_getElem?_getD, List.getElem?_set, if_pos rfl, if_pos (by rw [h.l]; exact hi)]; rfl
theorem set_other {a : List ByteArray} {i k : Nat} (hne : i ≠ k) (r : ByteArray) (j : Nat) : el (a.set i r) k j = el a k j := by
  apply Mx.F.ext
  rw [el_v, List.getD_eq_getElem?_getD, List.getElem?_set, if_neg hne, ← List.getD_eq_getElem?_getD, el_v]
theorem sing_alike {a : List ByteArray} {n i j : Nat} (h : Rect a n n) (h1 : 1 ≤ n) (h2 : n ≤ 16) (hi : i < n) (hj : j < n) (hij : i ≠ j) : invE (a.set i (a.getD j ⟨#[]⟩)) = 21 ∧ invL (a.set i (a.getD j ⟨#[]⟩)) = [] := by
  refine singular_of (set_rect h _ (h.s j hj)) h1 h2 (fun k => Mx.one i k + Mx.one j k) hi (by rw [Mx.one_self, Mx.one_other (Ne.symm hij), Mx.add_zero]; exact Mx.one_ne) fun p hp => ?_
  rw [Mx.S_congr (fun k _ => Mx.add_mul _ _ _), Mx.S_add, S_pick hi, S_pick hj, set_other hij]
  rw [show el (a.set i (a.getD j ⟨#[]⟩)) i p = el a j p from Mx.F.ext (set_same h hi _ p), Mx.add_self]
theorem sing_nought {a : List ByteArray} {n i : Nat} (h : Rect a n n) (h1 : 1 ≤ n) (h2 : n ≤ 16) (hi : i < n) : invE (a.set i (zrow n)) = 21 ∧ invL (a.set i (zrow n)) = [] := by
  refine singular_of (set_rect h _ (zrow_size n)) h1 h2 (fun k => Mx.one i k) hi (by rw [Mx.one_self]; exact Mx.one_ne) fun p hp => ?_
  rw [S_pick hi]
  exact Mx.F.ext ((set_same h hi _ p).trans (bt_zrow n p))
def xorRow (x y : ByteArray) (p : Nat) : UInt8 := UInt8.ofNat (bt x p ^^^ bt y p)
theorem xorRow_toNat (x y : ByteArray) (p : Nat) : (xorRow x y p).toNat = bt x p ^^^ bt y p := by
  have := Gf.xor_lt (bt_lt x p) (bt_lt y p)
  rw [xorRow, UInt8.toNat_ofNat']; omega
theorem sing_sum {a : List ByteArray} {n i j k : Nat} (h : Rect a n n) (h1 : 1 ≤ n) (h2 : n ≤ 16) (hi : i < n) (hj : j < n) (hk : k < n) (hij : i ≠ j) (hik : i ≠ k) :
    invE (a.set i (lineOf ((List.range n).map (xorRow (a.getD j ⟨#[]⟩) (a.getD k ⟨#[]⟩))))) = 21 ∧ invL (a.set i (lineOf ((List.range n).map (xorRow (a.getD j ⟨#[]⟩) (a.getD k ⟨#[]⟩))))) = [] := by
  refine singular_of (set_rect h _ (by show (lineOf _).data.size = n; simp [lineOf])) h1 h2 (fun l => Mx.one i l + (Mx.one j l + Mx.one k l)) hi (by rw [Mx.one_self, Mx.one_other (Ne.symm hij), Mx.one_other (Ne.symm hik), Mx.add_zero, Mx.add_zero]; exact Mx.one_ne) fun p hp => ?_
  rw [Mx.S_congr (fun l _ => Mx.add_mul _ _ _), Mx.S_add, Mx.S_congr (fun l _ => Mx.add_mul (Mx.one j l) _ _), Mx.S_add, S_pick hi, S_pick hj, S_pick hk, set_other hij, set_other hik]
  rw [show el (a.set i (lineOf ((List.range n).map (xorRow (a.getD j ⟨#[]⟩) (a.getD k ⟨#[]⟩))))) i p = el a j p + el a k p from Mx.F.ext (by
    rw [set_same h hi, bt_line, List.getD_eq_getElem?_getD, List.getElem?_map, List.getElem?_range hp]
    exact xorRow_toNat _ _ _), Mx.add_self]
theorem txset (a : List ByteArray) (i : Nat) (r : ByteArray) : (tx a).set i (.string r) = tx (a.set i r) := by rw [tx, tx, List.map_set]
end Go.Proofs.YtcmnojflllcdfaaDoor
