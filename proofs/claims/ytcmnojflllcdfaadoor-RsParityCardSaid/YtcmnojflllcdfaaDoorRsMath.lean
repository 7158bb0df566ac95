/- rs: any k rows of the matrix that makes all shards have an inverse; what is decoded is the data. -/
import Derived.Test.YtcmnojflllcdfaaDoorRsCode
namespace Go.Proofs.YtcmnojflllcdfaaDoor
open Go.RowKit
set_option linter.unusedVariables false
set_option linter.unusedSimpArgs false

theorem S_filter (p : Nat → Bool) (f : Nat → Mx.F) : ∀ n, (∀ j, j < n → p j = false → f j = 0) → Mx.S n f = Mx.S ((List.range n).filter p).length (fun t => f (((List.range n).filter p).getD t 0))
  | 0, _ => rfl
  | n + 1, h => by
    rw [Mx.S_succ, S_filter p f n (fun j hj hp => h j (by omega) hp), List.range_succ, List.filter_append]
    cases hp : p n with
    | true =>
      rw [List.filter_cons_of_pos hp, List.filter_nil, List.length_append]
      show _ = Mx.S (_ + 1) _
      rw [Mx.S_succ]
      congr 1
      · refine Mx.S_congr fun t ht => ?_
        rw [List.getD_eq_getElem?_getD, List.getD_eq_getElem?_getD, List.getElem?_append_left ht]
      · rw [List.getD_eq_getElem?_getD, List.getElem?_append_right (Nat.le_refl _)]
        simp
    | false =>
      rw [List.filter_cons_of_neg (by simp [hp]), List.filter_nil, List.append_nil, h n (by omega) hp, Mx.add_zero]
theorem filter_parts (p : Nat → Bool) : ∀ l : List Nat, l.length = (l.filter p).length + (l.filter fun x => !p x).length
  | [] => rfl
  | x :: l => by
    have ih := filter_parts p l
    cases h : p x <;> simp [List.filter_cons, h] <;> omega
theorem chL_length (r : List Nat) (rows : List ByteArray) : (chL r rows).length = r.length := by simp [chL]
theorem chL_get (r : List Nat) (rows : List ByteArray) {a : Nat} (h : a < r.length) : (chL r rows).getD a ⟨#[]⟩ = rows.getD (r.getD a 0) ⟨#[]⟩ := by
  simp [chL, List.getD_eq_getElem?_getD, h]
theorem genL_get1 {k m i : Nat} (h : i < k) : (genL k m).getD i ⟨#[]⟩ = (mkM idEl k k).getD i ⟨#[]⟩ := by
  rw [genL, List.getD_eq_getElem?_getD, List.getElem?_append_left (by rw [mkM_length]; exact h), List.getD_eq_getElem?_getD]
theorem genL_get2 {k m i : Nat} (h : k ≤ i) : (genL k m).getD i ⟨#[]⟩ = (mkM (cyEl m) m k).getD (i - k) ⟨#[]⟩ := by
  rw [genL, List.getD_eq_getElem?_getD, List.getElem?_append_right (by rw [mkM_length]; exact h), mkM_length, List.getD_eq_getElem?_getD]
theorem genL_rect (k m : Nat) : Rect (genL k m) (k + m) k := by
  refine ⟨genL_length k m, fun i hi => ?_⟩
  rcases Nat.lt_or_ge i k with h | h
  · rw [genL_get1 h]; exact mkM_size _ h
  · rw [genL_get2 h]; exact mkM_size _ (by omega)
theorem genL_el1 {k m i j : Nat} (h : i < k) (hj : j < k) : el (genL k m) i j = Mx.one i j := by
  rw [← id_el h hj]
  apply Mx.F.ext
  rw [el_v, genL_get1 h, el_v]
theorem genL_el2 {k m i j : Nat} (hm : m ≤ 16) (hk : k ≤ 16) (h1 : k ≤ i) (h2 : i < k + m) (hj : j < k) : el (genL k m) i j = (toF (i - k) + toF (m + j)).inv := by
  apply Mx.F.ext
  rw [el_v, genL_get2 h1, ← el_v (mkM (cyEl m) m k), mkM_el _ (by omega) hj, cyEl_toNat, Mx.v_inv, toF_add (by omega) (by omega), toF_v (Gf.xor_lt (by omega) (by omega))]
theorem chL_rect {r : List Nat} {rows : List ByteArray} {k m n : Nat} (h : Rect rows m n) (hr : ∀ x ∈ r, x < m) (hl : r.length = k) : Rect (chL r rows) k n := by
  refine ⟨by rw [chL_length, hl], fun a ha => ?_⟩
  rw [chL_get r rows (by omega)]
  exact h.s _ (getD_lt hr (by omega))
theorem mem_getD {l : List Nat} {x : Nat} (h : x ∈ l) : ∃ a, a < l.length ∧ l.getD a 0 = x := by
  obtain ⟨a, ha, he⟩ := List.getElem_of_mem h
  exact ⟨a, ha, by rw [List.getD_eq_getElem?_getD, List.getElem?_eq_getElem ha]; exact he⟩
theorem getD_mem {l : List Nat} {a : Nat} (h : a < l.length) : l.getD a 0 ∈ l := by
  rw [List.getD_eq_getElem?_getD, List.getElem?_eq_getElem h]; exact List.getElem_mem h
/-- Any k rows of it have an inverse. -/
theorem gen_inv {k m : Nat} {r : List Nat} (k1 : 1 ≤ k) (k2 : k ≤ 8) (m2 : m ≤ 8) (hl : r.length = k) (hn : r.Nodup) (hr : ∀ x ∈ r, x < k + m) : invE (chL r (genL k m)) = 0 := by
  have hG := chL_rect (genL_rect k m) hr hl
  rcases inv_cases hG k1 (by omega) with ⟨e, _⟩ | ⟨_, _, v, q, hq, hv1, hv2⟩
  · exact e
  · exfalso
    have hel : ∀ a j, a < k → el (chL r (genL k m)) a j = el (genL k m) (r.getD a 0) j := fun a j ha => by
      apply Mx.F.ext
      rw [el_v, chL_get r _ (by omega), el_v]
    -- what has a row of its own
    have hD : ∀ x ∈ r, x < k → v x = 0 := fun x hx hxk => by
      obtain ⟨a, ha, rfl⟩ := mem_getD hx
      have := hv2 a (by omega)
      rw [Mx.S_congr (g := fun t => Mx.one (r.getD a 0) t * v t) (fun t ht => by rw [hel a t (by omega), genL_el1 hxk ht])] at this
      rwa [S_pick hxk] at this
    let p : Nat → Bool := fun j => !decide (j ∈ r)
    let U := (List.range k).filter p
    let P := r.filter (fun x => !decide (x < k))
    have hU : ∀ j, j ∈ U ↔ j < k ∧ j ∉ r := fun j => by simp [U, p]
    have hP : ∀ x, x ∈ P ↔ x ∈ r ∧ k ≤ x := fun x => by simp [P]
    have nU : U.Nodup := List.Pairwise.filter _ List.nodup_range
    have nP : P.Nodup := List.Pairwise.filter _ hn
    have nD : (r.filter fun x => decide (x < k)).Nodup := List.Pairwise.filter _ hn
    have hcount : U.length ≤ P.length := by
      have h1 := nodup_le k (U ++ r.filter fun x => decide (x < k)) (by
        rw [List.nodup_append]
        refine ⟨nU, nD, fun a ha b hb e => ?_⟩
        subst e
        have h2 := (hU a).1 ha
        simp at hb
        exact h2.2 hb.1) (fun x hx => by
        rw [List.mem_append] at hx
        rcases hx with hx | hx
        · exact ((hU x).1 hx).1
        · simp at hx; exact hx.2)
      have h2 := filter_parts (fun x => decide (x < k)) r
      rw [List.length_append] at h1
      have h3 : (r.filter fun x => !decide (x < k)).length = P.length := rfl
      omega
    have hUk : ∀ t, t < U.length → U.getD t 0 < k ∧ U.getD t 0 ∉ r := fun t ht => (hU _).1 (getD_mem ht)
    have hPk : ∀ t, t < P.length → P.getD t 0 ∈ r ∧ k ≤ P.getD t 0 ∧ P.getD t 0 < k + m := fun t ht => by
      have := (hP _).1 (getD_mem ht)
      exact ⟨this.1, this.2, hr _ this.1⟩
    have hker := Mx.cauchy_kernel U.length (fun t => toF (P.getD t 0 - k)) (fun t => toF (m + U.getD t 0)) (fun t => v (U.getD t 0))
      (fun i j hi hj hne => by
        have h1 := hPk i (by omega)
        have h2 := hPk j (by omega)
        have h3 := getD_ne nP (show i < P.length by omega) (show j < P.length by omega) hne
        exact toF_ne (by omega) (by omega) (by omega))
      (fun i j hi hj hne => by
        have h1 := hUk i hi
        have h2 := hUk j hj
        have h3 := getD_ne nU hi hj hne
        exact toF_ne (by omega) (by omega) (by omega))
      (fun i j hi hj => by
        have h1 := hPk i (by omega)
        have h2 := hUk j hj
        rw [toF_add (by omega) (by omega)]
        intro e
        have := congrArg Mx.F.v e
        rw [toF_v (Gf.xor_lt (by omega) (by omega)), Mx.v_zero] at this
        exact xor_pos' (a := P.getD i 0 - k) (b := m + U.getD j 0) (by omega) this)
      (fun i hi => by
        have h1 := hPk i (by omega)
        obtain ⟨a, ha, hae⟩ := mem_getD h1.1
        have h2 := hv2 a (by omega)
        rw [S_filter p _ k (fun j hj hp => by
          have : j ∈ r := by simpa [p] using hp
          rw [hD j this hj, Mx.mul_zero])] at h2
        rw [← h2]
        refine Mx.S_congr fun t ht => ?_
        have h3 := hUk t ht
        show v (U.getD t 0) * _ = _
        rw [Mx.mul_comm, hel a _ (by omega), hae, genL_el2 (by omega) (by omega) h1.2.1 h1.2.2 h3.1])
    have hz : v q = 0 := by
      by_cases hqr : q ∈ r
      · exact hD q hqr hq
      · obtain ⟨t, ht, hte⟩ := mem_getD ((hU q).2 ⟨hq, hqr⟩)
        rw [← hte]; exact hker t ht
    rw [hv1] at hz
    exact Mx.one_ne hz
/-- What is decoded: the data of which the chosen rows are. -/
theorem decode_back {k m L : Nat} {r : List Nat} {data got : List ByteArray} (k1 : 1 ≤ k) (k2 : k ≤ 8) (m2 : m ≤ 8) (hl : r.length = k) (hn : r.Nodup) (hr : ∀ x ∈ r, x < k + m) (hd : Rect data k L) (hg : Rect got k L) (L1 : 1 ≤ L) (L2 : L ≤ 4096)
    (h : ∀ a j, a < k → j < L → el got a j = Mx.mul k (el (genL k m)) (el data) (r.getD a 0) j) : mulL (invL (chL r (genL k m))) got = data ∧ mulE (invL (chL r (genL k m))) got = 0 := by
  have hG := chL_rect (genL_rect k m) hr hl
  rcases inv_cases hG k1 (by omega) with ⟨_, rI, i1, i2⟩ | ⟨e, _⟩
  · have ok := mulOk_of rI hg k1 (by omega) k1 (by omega) L1 L2
    refine ⟨(mulL_rect rI hg k1 ok).ext hd fun i j hi hj => ?_, by rw [mulE, if_pos ok]⟩
    rw [mulL_el rI hg k1 ok hi hj]
    rw [Mx.mul_congr (A' := el (invL (chL r (genL k m)))) (B' := Mx.mul k (el (chL r (genL k m))) (el data)) (fun _ _ => rfl) (fun a ha => by
      rw [h a j ha hj]
      refine Mx.S_congr fun t ht => ?_
      congr 1
      apply Mx.F.ext
      rw [el_v, el_v, chL_get r _ (by omega)]), ← Mx.mmul_assoc, Mx.mul_congr (A' := Mx.one) (B' := el data) (fun t ht => i1 i t hi ht) (fun _ _ => rfl), Mx.one_mul_at _ hi]
  · rw [gen_inv k1 k2 m2 hl hn hr] at e; cases e
/-- The code word of some data. -/
def wordL (data : List ByteArray) (k m : Nat) : List ByteArray := data ++ mulL (mkM (cyEl m) m k) data
theorem word_el {k m L : Nat} {data : List ByteArray} (hd : Rect data k L) (k1 : 1 ≤ k) (k2 : k ≤ 8) (m1 : 1 ≤ m) (m2 : m ≤ 8) (L1 : 1 ≤ L) (L2 : L ≤ 4096) {i j : Nat} (hi : i < k + m) (hj : j < L) :
    el (wordL data k m) i j = Mx.mul k (el (genL k m)) (el data) i j := by
  have ok := enc_mul hd k1 k2 m1 m2 L1 L2
  rcases Nat.lt_or_ge i k with h | h
  · have e : (wordL data k m).getD i ⟨#[]⟩ = data.getD i ⟨#[]⟩ := by
      rw [wordL, List.getD_eq_getElem?_getD, List.getElem?_append_left (by rw [hd.l]; exact h), List.getD_eq_getElem?_getD]
    rw [Mx.mul_congr (A' := Mx.one) (B' := el data) (fun t ht => genL_el1 h ht) (fun _ _ => rfl), Mx.one_mul_at _ h]
    apply Mx.F.ext
    rw [el_v, e, el_v]
  · have e : (wordL data k m).getD i ⟨#[]⟩ = (mulL (mkM (cyEl m) m k) data).getD (i - k) ⟨#[]⟩ := by
      rw [wordL, List.getD_eq_getElem?_getD, List.getElem?_append_right (by rw [hd.l]; exact h), hd.l, List.getD_eq_getElem?_getD]
    have e2 := mulL_el (mkM_rect (cyEl m) m k) hd k1 ok (show i - k < m by omega) hj
    apply Mx.F.ext
    rw [el_v, e, ← el_v (mulL (mkM (cyEl m) m k) data), e2]
    congr 1
    refine Mx.S_congr fun t ht => ?_
    congr 1
    apply Mx.F.ext
    rw [el_v, el_v, genL_get2 h]
theorem word_rect {k m L : Nat} {data : List ByteArray} (hd : Rect data k L) (k1 : 1 ≤ k) (k2 : k ≤ 8) (m1 : 1 ≤ m) (m2 : m ≤ 8) (L1 : 1 ≤ L) (L2 : L ≤ 4096) : Rect (wordL data k m) (k + m) L := by
  have ok := enc_mul hd k1 k2 m1 m2 L1 L2
  have hp := mulL_rect (mkM_rect (cyEl m) m k) hd k1 ok
  refine ⟨by rw [wordL, List.length_append, hd.l, hp.l], fun i hi => ?_⟩
  rcases Nat.lt_or_ge i k with h | h
  · rw [wordL, List.getD_eq_getElem?_getD, List.getElem?_append_left (by rw [hd.l]; exact h), ← List.getD_eq_getElem?_getD]; exact hd.s i h
  · rw [wordL, List.getD_eq_getElem?_getD, List.getElem?_append_right (by rw [hd.l]; exact h), hd.l, ← List.getD_eq_getElem?_getD]; exact hp.s _ (by omega)
end Go.Proofs.YtcmnojflllcdfaaDoor
