/- mat's law: whatever rows and as many places of a Cauchy matrix have an inverse. -/
import Derived.Test.YtcmnojflllcdfaaDoorMatTakes
import Derived.WalkLawsBesides
namespace Go.Proofs.YtcmnojflllcdfaaDoor
open Go.RowKit
set_option linter.unusedVariables false
set_option linter.unusedSimpArgs false

/-- The part of a Cauchy matrix of m rows in rows r and places c. -/
def partEl (m : Nat) (r c : List Nat) (i j : Nat) : UInt8 := cyEl m (r.getD i 0) (c.getD j 0)
def toF (n : Nat) : Mx.F := if h : n < 256 then Mx.F.mk n h else 0
theorem toF_v {n : Nat} (h : n < 256) : (toF n).v = n := by rw [toF, dif_pos h, Mx.v_mk]
theorem toF_add {a b : Nat} (ha : a < 256) (hb : b < 256) : toF a + toF b = toF (a ^^^ b) := by
  apply Mx.F.ext
  rw [Mx.v_add, toF_v ha, toF_v hb, toF_v (Gf.xor_lt ha hb)]
theorem toF_ne {a b : Nat} (ha : a < 256) (hb : b < 256) (h : a ≠ b) : toF a ≠ toF b := fun e => h (by rw [← toF_v ha, ← toF_v hb, e])
theorem getD_lt {l : List Nat} {n i : Nat} (h : ∀ x ∈ l, x < n) (hi : i < l.length) : l.getD i 0 < n := by
  rw [List.getD_eq_getElem?_getD, List.getElem?_eq_getElem hi]; exact h _ (List.getElem_mem hi)
theorem getD_ne {l : List Nat} {i j : Nat} (h : l.Nodup) (hi : i < l.length) (hj : j < l.length) (hne : i ≠ j) : l.getD i 0 ≠ l.getD j 0 := by
  rw [List.getD_eq_getElem?_getD, List.getD_eq_getElem?_getD, List.getElem?_eq_getElem hi, List.getElem?_eq_getElem hj]
  intro e
  exact hne ((List.getElem_inj h).1 e)
theorem nodup_le : ∀ (n : Nat) (l : List Nat), l.Nodup → (∀ x ∈ l, x < n) → l.length ≤ n
  | 0, l, _, hb => by
    cases l with
    | nil => simp
    | cons a t => have := hb a (by simp); omega
  | n + 1, l, h, hb => by
    by_cases hm : n ∈ l
    · have h1 := nodup_le n (l.erase n) (h.erase n) (fun x hx => by
        have hx1 := List.mem_of_mem_erase hx
        have := hb x hx1
        have hne : x ≠ n := by
          intro e; subst e
          exact (List.Nodup.not_mem_erase h) hx
        omega)
      rw [List.length_erase_of_mem hm] at h1
      have : 0 < l.length := List.length_pos_of_mem hm
      omega
    · have := nodup_le n l h (fun x hx => by
        have := hb x hx
        have hne : x ≠ n := by intro e; subst e; exact hm hx
        omega)
      omega
theorem part_inv {k m n : Nat} {r c : List Nat} (hk : k ≤ 16) (hm : m ≤ 16) (hn : 1 ≤ n) (hn2 : n ≤ 16) (hr : n ≤ r.length) (hc : n ≤ c.length) (nr : r.Nodup) (nc : c.Nodup) (br : ∀ x ∈ r, x < m) (bc : ∀ x ∈ c, x < k) : invE (mkM (partEl m r c) n n) = 0 := by
  rcases inv_cases (mkM_rect (partEl m r c) n n) hn hn2 with ⟨e, _⟩ | ⟨_, _, v, q, hq, hv1, hv2⟩
  · exact e
  · exfalso
    have lr : ∀ i, i < n → r.getD i 0 < m := fun i hi => getD_lt br (by omega)
    have lc : ∀ i, i < n → c.getD i 0 < k := fun i hi => getD_lt bc (by omega)
    have := Mx.cauchy_kernel n (fun i => toF (r.getD i 0)) (fun j => toF (m + c.getD j 0)) v
      (fun i j hi hj hne => toF_ne (by have := lr i hi; omega) (by have := lr j hj; omega) (getD_ne nr (by omega) (by omega) hne))
      (fun i j hi hj hne => toF_ne (by have := lc i hi; omega) (by have := lc j hj; omega) (by have := getD_ne nc (show i < c.length by omega) (show j < c.length by omega) hne; omega))
      (fun i j hi hj => by
        have h1 := lr i hi
        have h2 := lc j hj
        rw [toF_add (by omega) (by omega)]
        intro e
        have := congrArg Mx.F.v e
        rw [toF_v (Gf.xor_lt (by omega) (by omega)), Mx.v_zero] at this
        exact xor_pos' (a := r.getD i 0) (b := m + c.getD j 0) (by omega) this)
      (fun i hi => by
        rw [← hv2 i hi]
        refine Mx.S_congr fun j hj => ?_
        rw [Mx.mul_comm]
        congr 1
        apply Mx.F.ext
        have h1 := lr i hi
        have h2 := lc j hj
        rw [mkM_el _ hi hj, partEl, cyEl_toNat, Mx.v_inv, toF_add (by omega) (by omega), toF_v (Gf.xor_lt (by omega) (by omega))]) q hq
    rw [hv1] at this
    exact Mx.one_ne this
theorem line_snoc (f : Nat → UInt8) (j : Nat) (s : ByteArray) (c : Nat) (hc : c < s.size) (h : f j = s.data[c]?.getD 0) : lineOf ((List.range j).map f) ++ s.extract c (c + 1) = lineOf ((List.range (j + 1)).map f) := by
  apply ByteArray.ext
  rw [ByteArray.data_append, ByteArray.data_extract]
  apply Array.ext'
  rw [Array.toList_append, Array.toList_extract, lineOf, lineOf, List.range_succ, List.map_append]
  simp only [List.map_cons, List.map_nil, h]
  congr 1
  have hc' : c < s.data.toList.length := by simpa using hc
  rw [List.extract_eq_take_drop, show c + 1 - c = 1 by omega, List.drop_eq_getElem_cons hc']
  simp [Array.getElem?_eq_getElem (show c < s.data.size from hc)]
end Go.Proofs.YtcmnojflllcdfaaDoor
