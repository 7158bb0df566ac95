/- mat: what the lists of texts are, as matrices over the field. -/
import Derived.Test.YtcmnojflllcdfaaDoorMatInv2
namespace Go.Proofs.YtcmnojflllcdfaaDoor
open Go.RowKit
open Mx
set_option linter.unusedVariables false
set_option linter.unusedSimpArgs false

/-- The element in row i, at place j. -/
def el (l : List ByteArray) : Mx.M := fun i j => F.mk (bt (l.getD i ⟨#[]⟩) j) (bt_lt _ _)
theorem el_v (l : List ByteArray) (i j : Nat) : (el l i j).v = bt (l.getD i ⟨#[]⟩) j := rfl
theorem bt_list (s : ByteArray) (j : Nat) : bt s j = (s.data.toList.getD j 0).toNat := by simp [bt, List.getD_eq_getElem?_getD]
theorem bt_line (l : List UInt8) (j : Nat) : bt (lineOf l) j = (l.getD j 0).toNat := by simp [bt, lineOf, List.getD_eq_getElem?_getD]
theorem bt_out {s : ByteArray} {j : Nat} (h : s.size ≤ j) : bt s j = 0 := by
  unfold bt; rw [Array.getElem?_eq_none (by simpa using h)]; rfl
theorem bt_mulAdd (y x : ByteArray) (c : Nat) {j : Nat} (h : j < y.size) (hx : j < x.size) : bt (mulAdd y c x) j = bt y j ^^^ Gf.gm c (bt x j) := by
  have hl : j < (Gf.mix y.data.toList c x.data.toList).length := by rw [Gf.mix_length]; simpa using h
  rw [mulAdd, bt_line, List.getD_eq_getElem?_getD, List.getElem?_eq_getElem hl]
  show ((Gf.mix y.data.toList c x.data.toList)[j]).toNat = _
  rw [Gf.mix_get, Gf.mixAt_toNat, if_pos (by simpa using hx), ← bt_list, ← bt_list]
theorem bt_zrow (n j : Nat) : bt (zrow n) j = 0 := by
  rw [bt_list, zrow]
  simp only [List.getD_eq_getElem?_getD, List.getElem?_replicate]
  split <;> rfl
theorem bt_append (a b : ByteArray) (j : Nat) : bt (a ++ b) j = if j < a.size then bt a j else bt b (j - a.size) := by
  simp only [bt, ByteArray.data_append, Array.getElem?_append]
  by_cases h : j < a.size
  · rw [if_pos h, if_pos (by simpa using h)]
  · rw [if_neg h, if_neg (by simpa using h)]; rfl
theorem bt_extract (s : ByteArray) {n j : Nat} (h : n + j < s.size) : bt (s.extract n s.size) j = bt s (n + j) := by
  simp only [bt, ByteArray.data_extract, Array.getElem?_extract]
  rw [if_pos (by simp; omega)]
theorem text_ext {s t : ByteArray} (h : s.size = t.size) (hb : ∀ j, j < s.size → bt s j = bt t j) : s = t := by
  apply ByteArray.ext
  apply Array.ext
  · exact h
  · intro i h1 h2
    have := hb i h1
    unfold bt at this
    rw [Array.getElem?_eq_getElem h1, Array.getElem?_eq_getElem h2] at this
    exact UInt8.toNat_inj.1 (by simpa using this)
theorem rows_ext {a b : List ByteArray} {n : Nat} (h : a.length = b.length) (ha : ∀ i, i < a.length → (a.getD i ⟨#[]⟩).size = n) (hb : ∀ i, i < a.length → (b.getD i ⟨#[]⟩).size = n) (he : ∀ i j, i < a.length → j < n → el a i j = el b i j) : a = b := by
  apply List.ext_getElem h
  intro i h1 h2
  have e1 : a[i] = a.getD i ⟨#[]⟩ := by rw [List.getD_eq_getElem?_getD, List.getElem?_eq_getElem h1]; rfl
  have e2 : b[i] = b.getD i ⟨#[]⟩ := by rw [List.getD_eq_getElem?_getD, List.getElem?_eq_getElem h2]; rfl
  rw [e1, e2]
  refine text_ext (by rw [ha i h1, hb i h1]) fun j hj => ?_
  rw [ha i h1] at hj
  exact congrArg F.v (he i j h1 hj)
/-- Rows of one length. -/
structure Rect (rows : List ByteArray) (m n : Nat) : Prop where
  l : rows.length = m
  s : ∀ i, i < m → (rows.getD i ⟨#[]⟩).size = n
theorem Rect.ext {a b : List ByteArray} {m n : Nat} (ha : Rect a m n) (hb : Rect b m n) (h : ∀ i j, i < m → j < n → el a i j = el b i j) : a = b := by
  have e := ha.l
  subst e
  exact rows_ext (hb.l.symm) ha.s hb.s h
theorem Rect.mR {l : List ByteArray} {m n : Nat} (h : Rect l m n) (h1 : 1 ≤ m) (h2 : m ≤ 16) (h3 : 1 ≤ n) (h4 : n ≤ 4096) : mR l = true := by
  have e := h.l
  unfold Go.Proofs.YtcmnojflllcdfaaDoor.mR
  rw [Bool.and_eq_true, decide_eq_true_eq, List.all_eq_true, h.s 0 (by omega)]
  refine ⟨by omega, fun r hr => ?_⟩
  obtain ⟨i, hi, rfl⟩ := List.getElem_of_mem hr
  have := h.s i (by omega)
  rw [List.getD_eq_getElem?_getD, List.getElem?_eq_getElem hi] at this
  simpa using this
theorem Rect.of {l : List ByteArray} (h : Go.Proofs.YtcmnojflllcdfaaDoor.mR l = true) : Rect l l.length (l.getD 0 ⟨#[]⟩).size := ⟨rfl, (mR_facts h).2.2.2.2⟩
theorem comb_bt (f : ByteArray) (b : List ByteArray) {n j : Nat} (hb : ∀ i, i < b.length → (b.getD i ⟨#[]⟩).size = n) (h0 : 0 < b.length) (hj : j < n) :
    ∀ k, k ≤ b.length → F.mk (bt (comb f b k) j) (bt_lt _ _) = S k fun s => F.mk (bt f s) (bt_lt _ _) * el b s j
  | 0, _ => by
    apply F.ext
    show bt (zrow _) j = 0
    exact bt_zrow _ _
  | k + 1, hk => by
    rw [S_succ, ← comb_bt f b hb h0 hj k (by omega)]
    apply F.ext
    show bt (mulAdd (comb f b k) (f.data[k]?.getD 0).toNat (b.getD k ⟨#[]⟩)) j = bt (comb f b k) j ^^^ Gf.gm (bt f k) (bt (b.getD k ⟨#[]⟩) j)
    rw [bt_mulAdd _ _ _ (by rw [comb_size, hb 0 h0]; exact hj) (by rw [hb k (by omega)]; exact hj)]
    rfl
theorem mulOk_of {a b : List ByteArray} {m p n : Nat} (ha : Rect a m p) (hb : Rect b p n) (h1 : 1 ≤ m) (h2 : m ≤ 16) (h3 : 1 ≤ p) (h4 : p ≤ 16) (h5 : 1 ≤ n) (h6 : n ≤ 4096) : mulOk a b = true := by
  unfold mulOk
  rw [ha.mR h1 h2 h3 (by omega), hb.mR h3 h4 h5 h6, ha.s 0 (by omega), hb.l]
  simp
theorem mulL_of {a b : List ByteArray} (h : mulOk a b = true) : mulL a b = a.map (fun f => comb f b b.length) := if_pos h
theorem mulL_rect {a b : List ByteArray} {m p n : Nat} (ha : Rect a m p) (hb : Rect b p n) (h3 : 1 ≤ p) (h : mulOk a b = true) : Rect (mulL a b) m n := by
  rw [mulL_of h]
  refine ⟨by rw [List.length_map, ha.l], fun i hi => ?_⟩
  have hi' : i < a.length := by rw [ha.l]; exact hi
  rw [List.getD_eq_getElem?_getD, List.getElem?_map, List.getElem?_eq_getElem hi']
  show (comb _ b b.length).size = n
  rw [comb_size]; exact hb.s 0 (by omega)
theorem mulL_el {a b : List ByteArray} {m p n : Nat} (ha : Rect a m p) (hb : Rect b p n) (h3 : 1 ≤ p) (h : mulOk a b = true) {i j : Nat} (hi : i < m) (hj : j < n) : el (mulL a b) i j = mul p (el a) (el b) i j := by
  have hi' : i < a.length := by rw [ha.l]; exact hi
  have e : (mulL a b).getD i ⟨#[]⟩ = comb (a.getD i ⟨#[]⟩) b b.length := by
    rw [mulL_of h, List.getD_eq_getElem?_getD, List.getElem?_map, List.getElem?_eq_getElem hi', List.getD_eq_getElem?_getD, List.getElem?_eq_getElem hi']; rfl
  have hp := hb.l
  subst hp
  refine Eq.trans ?_ (comb_bt (a.getD i ⟨#[]⟩) b hb.s (by omega) hj b.length (Nat.le_refl _))
  apply F.ext
  rw [el_v, e, v_mk]
theorem mkM_rect (f : Nat → Nat → UInt8) (m n : Nat) : Rect (mkM f m n) m n := ⟨mkM_length f m n, fun i hi => mkM_size f hi⟩
theorem mkM_el (f : Nat → Nat → UInt8) {m n i j : Nat} (hi : i < m) (hj : j < n) : (el (mkM f m n) i j).v = (f i j).toNat := by
  rw [el_v, mkM_get f hi, bt_line, List.getD_eq_getElem?_getD, List.getElem?_map, List.getElem?_range hj]; rfl
theorem id_el {n i j : Nat} (hi : i < n) (hj : j < n) : el (mkM idEl n n) i j = one i j := by
  apply F.ext
  rw [mkM_el idEl hi hj, idEl, one]
  split <;> rfl
theorem redL_rect {l : List ByteArray} {m n c : Nat} (h : Rect l m n) (hc : c < m) : Rect (redL l c) m n := by
  have e := h.l
  subst e
  exact ⟨redL_length l c, fun i hi => redL_size l hc hi h.s⟩
theorem swapL_rect {l : List ByteArray} {m n a b : Nat} (h : Rect l m n) (ha : a < m) (hb : b < m) : Rect (swapL l a b) m n := by
  have e := h.l
  subst e
  exact ⟨swapL_length l a b, fun i hi => by rw [swapL_get l ha hb]; exact h.s _ (swp_lt ha hb hi)⟩
theorem swapL_el {l : List ByteArray} {m n a b : Nat} (h : Rect l m n) (ha : a < m) (hb : b < m) (i j : Nat) : el (swapL l a b) i j = el l (swp a b i) j := by
  have e := h.l
  subst e
  apply F.ext
  rw [el_v, swapL_get l ha hb, el_v]
theorem ownRow_bt {l : List ByteArray} {m n c j : Nat} (h : Rect l m n) (hc : c < m) (hj : j < n) : bt (ownRow l c) j = ((el l c c).inv * el l c j).v := by
  rw [ownRow, bt_mulAdd _ _ _ (by rw [zrow_size, h.s c hc]; exact hj) (by rw [h.s c hc]; exact hj), bt_zrow, Nat.zero_xor]; rfl
theorem redL_el_own {l : List ByteArray} {m n c j : Nat} (h : Rect l m n) (hc : c < m) (hj : j < n) : el (redL l c) c j = (el l c c).inv * el l c j := by
  apply F.ext
  have e := h.l
  rw [el_v, redL_get l (by omega), if_pos rfl, ownRow_bt h hc hj]
theorem redL_el_other {l : List ByteArray} {m n c i j : Nat} (h : Rect l m n) (hc : c < m) (hi : i < m) (hj : j < n) (hne : i ≠ c) : el (redL l c) i j = el l i j + el l i c * ((el l c c).inv * el l c j) := by
  apply F.ext
  have e := h.l
  rw [el_v, redL_get l (by omega), if_neg hne, redRow, bt_mulAdd _ _ _ (by rw [h.s i hi]; exact hj) (by rw [ownRow, mulAdd_size, zrow_size, h.s c hc]; exact hj), ownRow_bt h hc hj]; rfl
/-- What is kept while columns are done. -/
theorem gj_some {n : Nat} {A : Mx.M} : ∀ (f c : Nat) (l l' : List ByteArray) (R : Mx.M), f + c = n → Rect l n (n + n) → Inv n A R (el l) → (∀ i j, i < n → j < c → el l i j = one i j) → gj f c l = some l' →
    Rect l' n (n + n) ∧ (∃ R, Inv n A R (el l')) ∧ ∀ i j, i < n → j < n → el l' i j = one i j
  | 0, c, l, l', R, hf, hr, hI, h1, hg => by
    rw [gj, Option.some.injEq] at hg
    subst hg
    exact ⟨hr, ⟨R, hI⟩, fun i j hi hj => h1 i j hi (by omega)⟩
  | f + 1, c, l, l', R, hf, hr, hI, h1, hg => by
    have hc : c < n := by omega
    rw [gj, hr.l] at hg
    obtain ⟨q1, q2, q3, q4⟩ := pvt_spec l c (n - c) c
    obtain ⟨p, hp⟩ : ∃ p, pvt l c (n - c) c = p := ⟨_, rfl⟩
    rw [hp] at hg q1 q2 q3 q4
    by_cases he : p = n
    · rw [if_pos he] at hg; cases hg
    · rw [if_neg he] at hg
      have hpn : p < n := by omega
      obtain ⟨R1, hI1⟩ := hI.swap hc hpn (Y := el (swapL l c p)) (fun i j _ _ => swapL_el hr hc hpn i j)
      have hr1 := swapL_rect hr hc hpn
      have hx : el (swapL l c p) c c ≠ 0 := by
        rw [swapL_el hr hc hpn, show swp c p c = p from if_pos rfl]
        intro h0
        exact q3 (by omega) (congrArg F.v h0)
      obtain ⟨R2, hI2⟩ := hI1.clear hc hx (Y := el (redL (swapL l c p) c)) (fun j hj => redL_el_own hr1 hc hj) (fun i j hi hj hne => redL_el_other hr1 hc hi hj hne)
      refine gj_some f (c + 1) (redL (swapL l c p) c) l' R2 (by omega) (redL_rect hr1 hc) hI2 (fun i j hi hj => ?_) hg
      have hcj : ∀ j, j < c → el (swapL l c p) c j = 0 := fun j hj => by
        rw [swapL_el hr hc hpn, show swp c p c = p from if_pos rfl, h1 p j hpn hj, one_other (by omega)]
      by_cases hic : i = c
      · subst hic
        rw [redL_el_own hr1 hc (by omega)]
        by_cases hji : j = i
        · subst hji; rw [inv_mul hx, one_self]
        · rw [hcj j (by omega), mul_zero, one_other (Ne.symm hji)]
      · rw [redL_el_other hr1 hc hi (by omega) hic]
        by_cases hji : j = c
        · subst hji; rw [inv_mul hx, mul_one, add_self, one_other hic]
        · rw [hcj j (by omega), mul_zero, mul_zero, add_zero, swapL_el hr hc hpn]
          by_cases hip : i = p
          · subst hip
            rw [show swp c i i = c by unfold swp; rw [if_neg hic, if_pos rfl], h1 c j hc (by omega), one_other (by omega), one_other (by omega)]
          · rw [show swp c p i = i by unfold swp; rw [if_neg hic, if_neg hip], h1 i j hi (by omega)]
theorem gj_none {n : Nat} {A : Mx.M} : ∀ (f c : Nat) (l : List ByteArray) (R : Mx.M), f + c = n → Rect l n (n + n) → Inv n A R (el l) → (∀ i j, i < n → j < c → el l i j = one i j) → gj f c l = none →
    ∃ (v : Nat → F) (c : Nat), c < n ∧ v c = 1 ∧ ∀ i, i < n → S n (fun k => A i k * v k) = 0
  | 0, c, l, R, hf, hr, hI, h1, hg => by rw [gj] at hg; cases hg
  | f + 1, c, l, R, hf, hr, hI, h1, hg => by
    have hc : c < n := by omega
    rw [gj, hr.l] at hg
    obtain ⟨q1, q2, q3, q4⟩ := pvt_spec l c (n - c) c
    obtain ⟨p, hp⟩ : ∃ p, pvt l c (n - c) c = p := ⟨_, rfl⟩
    rw [hp] at hg q1 q2 q3 q4
    by_cases he : p = n
    · obtain ⟨v, hv1, hv2⟩ := hI.stuck hc h1 (fun i hi1 hi2 => F.ext (q4 i hi1 (by omega)))
      exact ⟨v, c, hc, hv1, hv2⟩
    · rw [if_neg he] at hg
      have hpn : p < n := by omega
      obtain ⟨R1, hI1⟩ := hI.swap hc hpn (Y := el (swapL l c p)) (fun i j _ _ => swapL_el hr hc hpn i j)
      have hr1 := swapL_rect hr hc hpn
      have hx : el (swapL l c p) c c ≠ 0 := by
        rw [swapL_el hr hc hpn, show swp c p c = p from if_pos rfl]
        intro h0
        exact q3 (by omega) (congrArg F.v h0)
      obtain ⟨R2, hI2⟩ := hI1.clear hc hx (Y := el (redL (swapL l c p) c)) (fun j hj => redL_el_own hr1 hc hj) (fun i j hi hj hne => redL_el_other hr1 hc hi hj hne)
      refine gj_none f (c + 1) (redL (swapL l c p) c) R2 (by omega) (redL_rect hr1 hc) hI2 (fun i j hi hj => ?_) hg
      have hcj : ∀ j, j < c → el (swapL l c p) c j = 0 := fun j hj => by
        rw [swapL_el hr hc hpn, show swp c p c = p from if_pos rfl, h1 p j hpn hj, one_other (by omega)]
      by_cases hic : i = c
      · subst hic
        rw [redL_el_own hr1 hc (by omega)]
        by_cases hji : j = i
        · subst hji; rw [inv_mul hx, one_self]
        · rw [hcj j (by omega), mul_zero, one_other (Ne.symm hji)]
      · rw [redL_el_other hr1 hc hi (by omega) hic]
        by_cases hji : j = c
        · subst hji; rw [inv_mul hx, mul_one, add_self, one_other hic]
        · rw [hcj j (by omega), mul_zero, mul_zero, add_zero, swapL_el hr hc hpn]
          by_cases hip : i = p
          · subst hip
            rw [show swp c i i = c by unfold swp; rw [if_neg hic, if_pos rfl], h1 c j hc (by omega), one_other (by omega), one_other (by omega)]
          · rw [show swp c p i = i by unfold swp; rw [if_neg hic, if_neg hip], h1 i j hi (by omega)]
theorem stL_rect {a : List ByteArray} {n : Nat} (h : Rect a n n) : Rect (stL a) n (n + n) := by
  have e := h.l
  subst e
  refine ⟨by simp [stL], fun i hi => ?_⟩
  rw [stL, List.getD_eq_getElem?_getD, List.getElem?_map, List.getElem?_range hi]
  show (a.getD i ⟨#[]⟩ ++ (mkM idEl a.length a.length).getD i ⟨#[]⟩).size = _
  rw [app_size, h.s i hi, mkM_size _ hi]
theorem stL_bt {a : List ByteArray} {n i : Nat} (h : Rect a n n) (hi : i < n) (j : Nat) : bt ((stL a).getD i ⟨#[]⟩) j = if j < n then bt (a.getD i ⟨#[]⟩) j else bt ((mkM idEl n n).getD i ⟨#[]⟩) (j - n) := by
  have e := h.l
  subst e
  rw [stL, List.getD_eq_getElem?_getD, List.getElem?_map, List.getElem?_range hi]
  show bt (a.getD i ⟨#[]⟩ ++ (mkM idEl a.length a.length).getD i ⟨#[]⟩) j = _
  rw [bt_append, h.s i hi]
theorem stL_inv {a : List ByteArray} {n : Nat} (h : Rect a n n) : Inv n (el a) one (el (stL a)) := by
  refine Inv.start (fun i j hi hj => F.ext ?_) (fun i j hi hj => F.ext ?_)
  · rw [el_v, stL_bt h hi, if_pos hj]; rfl
  · rw [el_v, stL_bt h hi, if_neg (by omega), show n + j - n = j by omega, ← el_v (mkM idEl n n), id_el hi hj]
theorem halfL_rect {l : List ByteArray} {n : Nat} (h : Rect l n (n + n)) : Rect (halfL n l) n n := by
  have e := h.l
  refine ⟨by simp [halfL, e], fun i hi => ?_⟩
  have hs := h.s i hi
  rw [List.getD_eq_getElem?_getD, List.getElem?_eq_getElem (by omega)] at hs
  rw [halfL, List.getD_eq_getElem?_getD, List.getElem?_map, List.getElem?_eq_getElem (by omega)]
  show (ByteArray.extract _ _ _).size = n
  rw [ByteArray.size_extract]
  simp only [Option.getD_some] at hs
  omega
theorem halfL_el {l : List ByteArray} {n i j : Nat} (h : Rect l n (n + n)) (hi : i < n) (hj : j < n) : el (halfL n l) i j = el l i (n + j) := by
  have e := h.l
  have hs := h.s i hi
  apply F.ext
  rw [el_v, el_v]
  rw [List.getD_eq_getElem?_getD, List.getElem?_eq_getElem (by omega), Option.getD_some] at hs
  rw [halfL, List.getD_eq_getElem?_getD, List.getElem?_map, List.getElem?_eq_getElem (by omega), List.getD_eq_getElem?_getD, List.getElem?_eq_getElem (by omega)]
  exact bt_extract _ (by omega)
theorem sq_of {a : List ByteArray} {n : Nat} (h : Rect a n n) (h1 : 1 ≤ n) (h2 : n ≤ 16) : sqB a = true := by
  unfold sqB
  rw [h.mR h1 h2 h1 (by omega), h.s 0 (by omega), h.l]; simp
/-- What Inverse hands out: an inverse from either side; or something that is not nought becomes nought. -/
theorem inv_cases {a : List ByteArray} {n : Nat} (h : Rect a n n) (h1 : 1 ≤ n) (h2 : n ≤ 16) :
    (invE a = 0 ∧ Rect (invL a) n n ∧ (∀ i j, i < n → j < n → mul n (el (invL a)) (el a) i j = one i j) ∧ ∀ i j, i < n → j < n → mul n (el a) (el (invL a)) i j = one i j) ∨
    (invE a = 21 ∧ invL a = [] ∧ ∃ (v : Nat → F) (c : Nat), c < n ∧ v c = 1 ∧ ∀ i, i < n → S n (fun k => el a i k * v k) = 0) := by
  have hs := sq_of h h1 h2
  have e := h.l
  cases hg : gj a.length 0 (stL a) with
  | some l =>
    left
    have hL : invL a = halfL n l := by rw [invL, if_pos hs, hg, e]
    rw [hL]
    rw [e] at hg
    obtain ⟨g1, ⟨R, g2⟩, g3⟩ := gj_some n 0 (stL a) l one (by omega) (stL_rect h) (stL_inv h) (fun i j _ hj => by omega) hg
    obtain ⟨d1, d2⟩ := g2.done g3
    refine ⟨by rw [invE, if_pos hs, e, hg], halfL_rect g1, fun i j hi hj => ?_, fun i j hi hj => ?_⟩
    · rw [← d1 i j hi hj]; exact mul_congr (fun k hk => halfL_el g1 hi hk) (fun _ _ => rfl)
    · rw [← d2 i j hi hj]; exact mul_congr (fun _ _ => rfl) (fun k hk => halfL_el g1 hk hj)
  | none =>
    right
    refine ⟨by rw [invE, if_pos hs, hg], by rw [invL, if_pos hs, hg], ?_⟩
    rw [e] at hg
    exact gj_none n 0 (stL a) one (by omega) (stL_rect h) (stL_inv h) (fun i j _ hj => by omega) hg
/-- What undoes from the right alone is what Inverse hands out. -/
theorem inv_is {a b : List ByteArray} {n : Nat} (h : Rect a n n) (hb : Rect b n n) (h1 : 1 ≤ n) (h2 : n ≤ 16) (hr : ∀ i j, i < n → j < n → mul n (el a) (el b) i j = one i j) : invE a = 0 ∧ invL a = b := by
  -- b has something that undoes it from the left, so from either side; and that is a
  have hb2 : ∀ i j, i < n → j < n → mul n (el b) (el a) i j = one i j := by
    rcases inv_cases hb h1 h2 with ⟨_, r1, r2, r3⟩ | ⟨_, _, v, c, hc, hv1, hv2⟩
    · have := inv_one hr r3
      intro i j hi hj
      rw [← r3 i j hi hj]
      exact mul_congr (fun _ _ => rfl) (fun k hk => this k j hk hj)
    · have := no_kernel hr hv2 hc
      rw [hv1] at this
      exact absurd this one_ne
  rcases inv_cases h h1 h2 with ⟨e1, r1, r2, r3⟩ | ⟨_, _, v, c, hc, hv1, hv2⟩
  · exact ⟨e1, r1.ext hb (inv_one r2 hr)⟩
  · have := no_kernel hb2 hv2 hc
    rw [hv1] at this
    exact absurd this one_ne
end Go.Proofs.YtcmnojflllcdfaaDoor
