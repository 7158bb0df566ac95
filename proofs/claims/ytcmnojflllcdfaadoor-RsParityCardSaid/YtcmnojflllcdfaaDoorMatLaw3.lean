/- mat's laws: a product goes over a sum; the identity changes nothing. -/
import Derived.Test.YtcmnojflllcdfaaDoorMatSum
namespace Go.Proofs.YtcmnojflllcdfaaDoor
open Go.RowKit
set_option linter.unusedVariables false
set_option linter.unusedSimpArgs false

theorem over_left {a b c : List ByteArray} {n : Nat} (ha : Rect a n n) (hb : Rect b n n) (hc : Rect c n n) (h1 : 1 ≤ n) (h2 : n ≤ 16) : mulL a (sumL b c n n) = sumL (mulL a b) (mulL a c) n n := by
  obtain ⟨_, p2, p3⟩ := mulL_sq ha hb h1 h2
  obtain ⟨_, q2, q3⟩ := mulL_sq ha hc h1 h2
  obtain ⟨_, r2, r3⟩ := mulL_sq ha (sumL_rect b c n n) h1 h2
  refine r2.ext (sumL_rect _ _ n n) fun i j hi hj => ?_
  rw [r3 i j hi hj, sumL_el _ _ hi hj, p3 i j hi hj, q3 i j hi hj]
  show Mx.S n _ = Mx.S n _ + Mx.S n _
  rw [← Mx.S_add]
  exact Mx.S_congr fun k hk => by rw [sumL_el b c hk hj, Mx.mul_add]
theorem over_right {a b c : List ByteArray} {n : Nat} (ha : Rect a n n) (hb : Rect b n n) (hc : Rect c n n) (h1 : 1 ≤ n) (h2 : n ≤ 16) : mulL (sumL b c n n) a = sumL (mulL b a) (mulL c a) n n := by
  obtain ⟨_, p2, p3⟩ := mulL_sq hb ha h1 h2
  obtain ⟨_, q2, q3⟩ := mulL_sq hc ha h1 h2
  obtain ⟨_, r2, r3⟩ := mulL_sq (sumL_rect b c n n) ha h1 h2
  refine r2.ext (sumL_rect _ _ n n) fun i j hi hj => ?_
  rw [r3 i j hi hj, sumL_el _ _ hi hj, p3 i j hi hj, q3 i j hi hj]
  show Mx.S n _ = Mx.S n _ + Mx.S n _
  rw [← Mx.S_add]
  exact Mx.S_congr fun k hk => by rw [sumL_el b c hi hk, Mx.add_mul]
theorem one_left {a : List ByteArray} {n : Nat} (ha : Rect a n n) (h1 : 1 ≤ n) (h2 : n ≤ 16) : mulL (mkM idEl n n) a = a := by
  obtain ⟨_, p2, p3⟩ := mulL_sq (mkM_rect idEl n n) ha h1 h2
  refine p2.ext ha fun i j hi hj => ?_
  rw [p3 i j hi hj, Mx.mul_congr (A' := Mx.one) (B' := el a) (fun k hk => id_el hi hk) (fun _ _ => rfl), Mx.one_mul_at _ hi]
theorem one_right {a : List ByteArray} {n : Nat} (ha : Rect a n n) (h1 : 1 ≤ n) (h2 : n ≤ 16) : mulL a (mkM idEl n n) = a := by
  obtain ⟨_, p2, p3⟩ := mulL_sq ha (mkM_rect idEl n n) h1 h2
  refine p2.ext ha fun i j hi hj => ?_
  rw [p3 i j hi hj, Mx.mul_congr (A' := el a) (B' := Mx.one) (fun _ _ => rfl) (fun k hk => id_el hk hj), Mx.mul_one_at _ _ hj]
end Go.Proofs.YtcmnojflllcdfaaDoor
