/- The calls of geo, walked: the layout. -/
import Derived.Test.YtdbjfofnkijmoaaDoorGeoWalk
namespace Go.Proofs.YtdbjfofnkijmoaaDoor
open Go.RowKit
set_option linter.unusedVariables false
set_option linter.unusedSimpArgs false

set_option maxRecDepth 100000 in
set_option maxHeartbeats 1000000 in
theorem rstripes_any (K M B : Int) (w : World) :
    Calls Tryd.prog 35 #[.agg #[.int .i64 K, .int .i64 M, .int .i64 B]] w fun e w' => e = .returned (.int .i64 (gStripes K M B)) ∧ Below w.heap.size w w' := by
  have hB0 : Below w.heap.size w (w.alloc (.cells #[.int .i64 K, .int .i64 M, .int .i64 B] 23)) := (Below.refl _ _).alloc (Nat.le_refl _) _
  cases hR : gR K M B
  · have hv : Hid (gStripes K M B = 0) := Lib.hid (by unfold gStripes; rw [hR]; rfl)
    go_enter Tryd.func35, Tryd.ntmps35
    go_wp2_with (first | (go_at_call 34; refine (rright_any _ _ _ _).mono ?_; rintro e w1 ⟨rfl, hb⟩; obtain ⟨hc, hf⟩ := bcell hb; have hB := below_c (w0 := w) (by assumption) hb; have hlt : w.heap.size < w1.heap.size := Nat.lt_of_lt_of_le (by first | assumption | simp) hb.size))
    go_ret
    exact ⟨by rw [hv.out]; rfl, hB⟩
  · obtain ⟨k1, k2, m1, m2, b1, b2⟩ := gR_true hR
    by_cases hz : B % K = 0
    · have hv : Hid (gStripes K M B = B / K) := Lib.hid (by
        unfold gStripes; rw [hR]
        rcases (by omega : K = 1 ∨ K = 2 ∨ K = 3 ∨ K = 4) with rfl | rfl | rfl | rfl <;> simp <;> omega)
      have t : (B % K != 0) = false := by rw [hz]; rfl
      have g1 := div_rng (K := K) (B := B) (by omega) (by omega)
      clear hz
      go_enter Tryd.func35, Tryd.ntmps35
      go_wp2_with (first | (go_at_call 34; refine (rright_any _ _ _ _).mono ?_; rintro e w1 ⟨rfl, hb⟩; obtain ⟨hc, hf⟩ := bcell hb; have hB := below_c (w0 := w) (by assumption) hb; have hlt : w.heap.size < w1.heap.size := Nat.lt_of_lt_of_le (by first | assumption | simp) hb.size))
      go_ret
      exact ⟨by rw [hv.out]; rfl, hB⟩
    · have hv : Hid (gStripes K M B = B / K + 1) := Lib.hid (by
        unfold gStripes; rw [hR]
        rcases (by omega : K = 1 ∨ K = 2 ∨ K = 3 ∨ K = 4) with rfl | rfl | rfl | rfl <;> simp <;> omega)
      have t : (B % K != 0) = true := by rw [bne_iff_ne]; exact hz
      have g1 : 0 ≤ B / K ∧ B / K ≤ 200 := by
        rcases (by omega : K = 1 ∨ K = 2 ∨ K = 3 ∨ K = 4) with rfl | rfl | rfl | rfl <;> omega
      clear hz
      go_enter Tryd.func35, Tryd.ntmps35
      go_wp2_with (first | (go_at_call 34; refine (rright_any _ _ _ _).mono ?_; rintro e w1 ⟨rfl, hb⟩; obtain ⟨hc, hf⟩ := bcell hb; have hB := below_c (w0 := w) (by assumption) hb; have hlt : w.heap.size < w1.heap.size := Nat.lt_of_lt_of_le (by first | assumption | simp) hb.size))
      go_ret
      exact ⟨by rw [hv.out]; rfl, hB⟩
def gShards (K M B : Int) : Int := 2 + 2 * (1 + gBody K M B)
theorem shards_rng (K M B : Int) : 4 ≤ gShards K M B ∧ gShards K M B ≤ 132 := by have := body_rng K M B; unfold gShards; omega
theorem gSectors_eq (K M B : Int) (h : gR K M B = true) : gSectors K M B = gShards K M B + gStripes K M B := by
  unfold gSectors gShards gStripes gBody; rw [h]; rfl
theorem gBody_eq {K M B : Int} (h : gR K M B = true) : gBody K M B = 16 * K := by unfold gBody; rw [h]; rfl
/-- Is there such a stripe? -/
def gHas (K M B s : Int) : Bool := decide (0 ≤ s ∧ s < gStripes K M B)
theorem gHas_true {K M B s : Int} (h : gHas K M B s = true) : 0 ≤ s ∧ s < gStripes K M B := by simpa [gHas] using h
end Go.Proofs.YtdbjfofnkijmoaaDoor
