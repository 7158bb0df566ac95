/- mat's laws: products may be put together in any order; what undoes a product. -/
import Derived.Test.YtcmnojflllcdfaaDoorMatLaw1
namespace Go.Proofs.YtcmnojflllcdfaaDoor
open Go.RowKit
set_option linter.unusedVariables false
set_option linter.unusedSimpArgs false

theorem both_right {n : Nat} {A B X Y : Mx.M} (h1 : ∀ i j, i < n → j < n → Mx.mul n A X i j = Mx.one i j) (h2 : ∀ i j, i < n → j < n → Mx.mul n B Y i j = Mx.one i j) :
    ∀ i j, i < n → j < n → Mx.mul n (Mx.mul n A B) (Mx.mul n Y X) i j = Mx.one i j := fun i j hi hj => by
  rw [Mx.mmul_assoc, ← Mx.mmul_assoc n n B Y X, ← h1 i j hi hj]
  refine Mx.mul_congr (fun _ _ => rfl) fun k hk => ?_
  rw [Mx.mul_congr (A' := Mx.one) (B' := X) (fun l hl => h2 k l hk hl) (fun _ _ => rfl), Mx.one_mul_at _ hk]
/-- A product undone; its parts undone. -/
theorem both_ok {a b : List ByteArray} {n : Nat} (ha : Rect a n n) (hb : Rect b n n) (h1 : 1 ≤ n) (h2 : n ≤ 16) (ea : invE a = 0) (eb : invE b = 0) :
    invE (mulL a b) = 0 ∧ invL (mulL a b) = mulL (invL b) (invL a) ∧ mulE (invL b) (invL a) = 0 ∧ Rect (invL a) n n ∧ Rect (invL b) n n := by
  rcases inv_cases ha h1 h2 with ⟨_, ra, k1, k2⟩ | ⟨e, _⟩
  · rcases inv_cases hb h1 h2 with ⟨_, rb, l1, l2⟩ | ⟨e, _⟩
    · obtain ⟨m1, m2, m3⟩ := mulL_sq ha hb h1 h2
      obtain ⟨p1, p2, p3⟩ := mulL_sq rb ra h1 h2
      have hx := both_right k2 l2
      have := inv_is m2 p2 h1 h2 (fun i j hi hj => by
        rw [← hx i j hi hj]
        exact Mx.mul_congr (fun k hk => m3 i k hi hk) (fun k hk => p3 k j hk hj))
      exact ⟨this.1, this.2, p1, ra, rb⟩
    · rw [eb] at e; cases e
  · rw [ea] at e; cases e
theorem both_bad {a b : List ByteArray} {n : Nat} (ha : Rect a n n) (hb : Rect b n n) (h1 : 1 ≤ n) (h2 : n ≤ 16) (h : invE a = 21 ∨ invE b = 21) :
    invE (mulL a b) = 21 ∧ invL (mulL a b) = [] := by
  obtain ⟨m1, m2, m3⟩ := mulL_sq ha hb h1 h2
  rcases inv_cases m2 h1 h2 with ⟨_, rc, k1, k2⟩ | ⟨e, e2, _⟩
  · exfalso
    rcases h with h | h
    · obtain ⟨p1, p2, p3⟩ := mulL_sq hb rc h1 h2
      have := inv_is ha p2 h1 h2 (fun i j hi hj => by
        rw [← k2 i j hi hj, Mx.mul_congr (A' := el a) (B' := Mx.mul n (el b) (el (invL (mulL a b)))) (fun _ _ => rfl) (fun k hk => p3 k j hk hj), ← Mx.mmul_assoc]
        exact Mx.mul_congr (fun k hk => (m3 i k hi hk).symm) (fun _ _ => rfl))
      rw [h] at this
      cases this.1
    · rcases inv_cases hb h1 h2 with ⟨e, _⟩ | ⟨_, _, v, c, hc, hv1, hv2⟩
      · rw [h] at e; cases e
      · have := Mx.no_kernel (B := Mx.mul n (el (invL (mulL a b))) (el a)) (fun i j hi hj => by
          rw [Mx.mmul_assoc, ← k1 i j hi hj]
          exact Mx.mul_congr (fun _ _ => rfl) (fun k hk => (m3 k j hk hj).symm)) hv2 hc
        rw [hv1] at this
        exact Mx.one_ne this
  · exact ⟨e, e2⟩
theorem groups_eq {a b c : List ByteArray} {n : Nat} (ha : Rect a n n) (hb : Rect b n n) (hc : Rect c n n) (h1 : 1 ≤ n) (h2 : n ≤ 16) : mulL (mulL a b) c = mulL a (mulL b c) := by
  obtain ⟨_, p2, p3⟩ := mulL_sq ha hb h1 h2
  obtain ⟨_, q2, q3⟩ := mulL_sq hb hc h1 h2
  obtain ⟨_, r2, r3⟩ := mulL_sq p2 hc h1 h2
  obtain ⟨_, s2, s3⟩ := mulL_sq ha q2 h1 h2
  refine r2.ext s2 fun i j hi hj => ?_
  rw [r3 i j hi hj, s3 i j hi hj, Mx.mul_congr (A' := Mx.mul n (el a) (el b)) (B' := el c) (fun k hk => p3 i k hi hk) (fun _ _ => rfl), Mx.mmul_assoc]
  exact Mx.mul_congr (fun _ _ => rfl) (fun k hk => (q3 k j hk hj).symm)
end Go.Proofs.YtcmnojflllcdfaaDoor
