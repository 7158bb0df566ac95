/- The calls of geo, walked: the layout. -/
import Derived.Test.YtfepfmibcjlkiaaGeoWalk
namespace Go.Proofs.Ytfepfmibcjlkiaa
open Go.RowKit
set_option linter.unusedVariables false
set_option linter.unusedSimpArgs false

set_option maxRecDepth 100000 in
set_option maxHeartbeats 1000000 in
theorem rslots_any (K M B : Int) (w : World) :
    Calls Try.prog 17 #[.agg #[.int .i64 K, .int .i64 M, .int .i64 B]] w fun e w' => e = .returned (.int .i64 (gSlots K M B)) ∧ Below w.heap.size w w' := by
  have hB0 : Below w.heap.size w (w.alloc (.cells #[.int .i64 K, .int .i64 M, .int .i64 B] 23)) := (Below.refl _ _).alloc (Nat.le_refl _) _
  cases hR : gR K M B
  · have hv : Hid (gSlots K M B = 0) := Lib.hid (by unfold gSlots; rw [hR]; rfl)
    go_enter Try.func17, Try.ntmps17
    go_wp2_with (first | (go_at_call 15; refine (rright_any _ _ _ _).mono ?_; rintro e w1 ⟨rfl, hb⟩; obtain ⟨hc, hf⟩ := bcell hb; have hB := below_c (w0 := w) (by assumption) hb; have hlt : w.heap.size < w1.heap.size := Nat.lt_of_lt_of_le (by first | assumption | simp) hb.size))
    go_ret
    exact ⟨by rw [hv.out]; rfl, hB⟩
  · obtain ⟨k1, k2, m1, m2, b1, b2⟩ := gR_true hR
    have hv : Hid (gSlots K M B = K + M) := Lib.hid (by unfold gSlots; rw [hR]; rfl)
    go_enter Try.func17, Try.ntmps17
    go_wp2_with (first | (go_at_call 15; refine (rright_any _ _ _ _).mono ?_; rintro e w1 ⟨rfl, hb⟩; obtain ⟨hc, hf⟩ := bcell hb; have hB := below_c (w0 := w) (by assumption) hb; have hlt : w.heap.size < w1.heap.size := Nat.lt_of_lt_of_le (by first | assumption | simp) hb.size))
    go_ret
    exact ⟨by rw [hv.out]; rfl, hB⟩
set_option maxRecDepth 100000 in
set_option maxHeartbeats 1000000 in
theorem rbody_any (K M B : Int) (w : World) :
    Calls Try.prog 23 #[.agg #[.int .i64 K, .int .i64 M, .int .i64 B]] w fun e w' => e = .returned (.int .i64 (gBody K M B)) ∧ Below w.heap.size w w' := by
  have hB0 : Below w.heap.size w (w.alloc (.cells #[.int .i64 K, .int .i64 M, .int .i64 B] 23)) := (Below.refl _ _).alloc (Nat.le_refl _) _
  cases hR : gR K M B
  · have hv : Hid (gBody K M B = 0) := Lib.hid (by unfold gBody; rw [hR]; rfl)
    go_enter Try.func23, Try.ntmps23
    go_wp2_with (first | (go_at_call 15; refine (rright_any _ _ _ _).mono ?_; rintro e w1 ⟨rfl, hb⟩; obtain ⟨hc, hf⟩ := bcell hb; have hB := below_c (w0 := w) (by assumption) hb; have hlt : w.heap.size < w1.heap.size := Nat.lt_of_lt_of_le (by first | assumption | simp) hb.size))
    go_ret
    exact ⟨by rw [hv.out]; rfl, hB⟩
  · obtain ⟨k1, k2, m1, m2, b1, b2⟩ := gR_true hR
    have hv : Hid (gBody K M B = 16 * K) := Lib.hid (by unfold gBody; rw [hR]; rfl)
    go_enter Try.func23, Try.ntmps23
    go_wp2_with (first | (go_at_call 15; refine (rright_any _ _ _ _).mono ?_; rintro e w1 ⟨rfl, hb⟩; obtain ⟨hc, hf⟩ := bcell hb; have hB := below_c (w0 := w) (by assumption) hb; have hlt : w.heap.size < w1.heap.size := Nat.lt_of_lt_of_le (by first | assumption | simp) hb.size))
    go_ret
    exact ⟨by rw [hv.out]; rfl, hB⟩
set_option maxRecDepth 100000 in
set_option maxHeartbeats 1000000 in
theorem rstripes_any (K M B : Int) (w : World) :
    Calls Try.prog 19 #[.agg #[.int .i64 K, .int .i64 M, .int .i64 B]] w fun e w' => e = .returned (.int .i64 (gStripes K M B)) ∧ Below w.heap.size w w' := by
  have hB0 : Below w.heap.size w (w.alloc (.cells #[.int .i64 K, .int .i64 M, .int .i64 B] 23)) := (Below.refl _ _).alloc (Nat.le_refl _) _
  cases hR : gR K M B
  · have hv : Hid (gStripes K M B = 0) := Lib.hid (by unfold gStripes; rw [hR]; rfl)
    go_enter Try.func19, Try.ntmps19
    go_wp2_with (first | (go_at_call 15; refine (rright_any _ _ _ _).mono ?_; rintro e w1 ⟨rfl, hb⟩; obtain ⟨hc, hf⟩ := bcell hb; have hB := below_c (w0 := w) (by assumption) hb; have hlt : w.heap.size < w1.heap.size := Nat.lt_of_lt_of_le (by first | assumption | simp) hb.size))
    go_ret
    exact ⟨by rw [hv.out]; rfl, hB⟩
  · obtain ⟨k1, k2, m1, m2, b1, b2⟩ := gR_true hR
    by_cases hz : B % K = 0
    · have hv : Hid (gStripes K M B = B / K) := Lib.hid (by
        unfold gStripes; rw [hR]
        rcases (by omega : K = 1 ∨ K = 2 ∨ K = 3 ∨ K = 4) with rfl | rfl | rfl | rfl <;> simp <;> omega)
      have t : (B % K != 0) = false := by rw [hz]; rfl
      have g1 := div_rng (K := K) (B := B) (by omega) (by omega)
      clear hz
      go_enter Try.func19, Try.ntmps19
      go_wp2_with (first | (go_at_call 15; refine (rright_any _ _ _ _).mono ?_; rintro e w1 ⟨rfl, hb⟩; obtain ⟨hc, hf⟩ := bcell hb; have hB := below_c (w0 := w) (by assumption) hb; have hlt : w.heap.size < w1.heap.size := Nat.lt_of_lt_of_le (by first | assumption | simp) hb.size))
      go_ret
      exact ⟨by rw [hv.out]; rfl, hB⟩
    · have hv : Hid (gStripes K M B = B / K + 1) := Lib.hid (by
        unfold gStripes; rw [hR]
        rcases (by omega : K = 1 ∨ K = 2 ∨ K = 3 ∨ K = 4) with rfl | rfl | rfl | rfl <;> simp <;> omega)
      have t : (B % K != 0) = true := by rw [bne_iff_ne]; exact hz
      have g1 : 0 ≤ B / K ∧ B / K ≤ 200 := by
        rcases (by omega : K = 1 ∨ K = 2 ∨ K = 3 ∨ K = 4) with rfl | rfl | rfl | rfl <;> omega
      clear hz
      go_enter Try.func19, Try.ntmps19
      go_wp2_with (first | (go_at_call 15; refine (rright_any _ _ _ _).mono ?_; rintro e w1 ⟨rfl, hb⟩; obtain ⟨hc, hf⟩ := bcell hb; have hB := below_c (w0 := w) (by assumption) hb; have hlt : w.heap.size < w1.heap.size := Nat.lt_of_lt_of_le (by first | assumption | simp) hb.size))
      go_ret
      exact ⟨by rw [hv.out]; rfl, hB⟩
def gShards (K M B : Int) : Int := 2 + 2 * (1 + gBody K M B)
set_option maxRecDepth 100000 in
set_option maxHeartbeats 1000000 in
theorem bay_any (K M B : Int) (w : World) :
    Calls Try.prog 39 #[.agg #[.int .i64 K, .int .i64 M, .int .i64 B]] w fun e w' => e = .returned (.int .i64 (1 + gBody K M B)) ∧ Below w.heap.size w w' := by
  have hB0 : Below w.heap.size w (w.alloc (.cells #[.int .i64 K, .int .i64 M, .int .i64 B] 23)) := (Below.refl _ _).alloc (Nat.le_refl _) _
  have hr := body_rng K M B
  go_enter Try.func39, Try.ntmps39
  go_wp2_with (first | (go_at_call 22; refine (body_any _ _ _ _).mono ?_; rintro e w1 ⟨rfl, hb⟩; obtain ⟨hc, hf⟩ := bcell hb; have hB := below_c (w0 := w) (by assumption) hb; have hlt : w.heap.size < w1.heap.size := Nat.lt_of_lt_of_le (by first | assumption | simp) hb.size))
  go_ret
  exact ⟨rfl, hB⟩
set_option maxRecDepth 100000 in
set_option maxHeartbeats 1000000 in
theorem shards_any (K M B : Int) (w : World) :
    Calls Try.prog 36 #[.agg #[.int .i64 K, .int .i64 M, .int .i64 B]] w fun e w' => e = .returned (.int .i64 (gShards K M B)) ∧ Below w.heap.size w w' := by
  have hB0 : Below w.heap.size w (w.alloc (.cells #[.int .i64 K, .int .i64 M, .int .i64 B] 23)) := (Below.refl _ _).alloc (Nat.le_refl _) _
  have hr := body_rng K M B
  go_enter Try.func36, Try.ntmps36
  go_wp2_with (first | (go_at_call 39; refine (bay_any _ _ _ _).mono ?_; rintro e w1 ⟨rfl, hb⟩; obtain ⟨hc, hf⟩ := bcell hb; have hB := below_c (w0 := w) (by assumption) hb; have hlt : w.heap.size < w1.heap.size := Nat.lt_of_lt_of_le (by first | assumption | simp) hb.size))
  go_ret
  exact ⟨rfl, hB⟩
theorem shards_rng (K M B : Int) : 4 ≤ gShards K M B ∧ gShards K M B ≤ 132 := by have := body_rng K M B; unfold gShards; omega
theorem gSectors_eq (K M B : Int) (h : gR K M B = true) : gSectors K M B = gShards K M B + gStripes K M B := by
  unfold gSectors gShards gStripes gBody; rw [h]; rfl
theorem gBody_eq {K M B : Int} (h : gR K M B = true) : gBody K M B = 16 * K := by unfold gBody; rw [h]; rfl
set_option maxRecDepth 100000 in
set_option maxHeartbeats 1000000 in
theorem sectors_any (K M B : Int) (w : World) :
    Calls Try.prog 20 #[.agg #[.int .i64 K, .int .i64 M, .int .i64 B]] w fun e w' => e = .returned (.int .i64 (gSectors K M B)) ∧ Below w.heap.size w w' := by
  have hB0 : Below w.heap.size w (w.alloc (.cells #[.int .i64 K, .int .i64 M, .int .i64 B] 23)) := (Below.refl _ _).alloc (Nat.le_refl _) _
  have r1 := shards_rng K M B
  have r2 := stripes_rng K M B
  cases hR : gR K M B
  · have hv : Hid (gSectors K M B = 0) := Lib.hid (by unfold gSectors; rw [hR]; rfl)
    go_enter Try.func20, Try.ntmps20
    go_wp2_with (first | (go_at_call 14; refine (right_any _ _ _ _).mono ?_; rintro e w1 ⟨rfl, hb⟩; obtain ⟨hc, hf⟩ := bcell hb; have hB := below_c (w0 := w) (by assumption) hb; have hlt : w.heap.size < w1.heap.size := Nat.lt_of_lt_of_le (by first | assumption | simp) hb.size) | (go_at_call 36; refine (shards_any _ _ _ _).mono ?_; rintro e w1 ⟨rfl, hb⟩; obtain ⟨hc, hf⟩ := bcell hb; have hB := below_c (w0 := w) (by assumption) hb; have hlt : w.heap.size < w1.heap.size := Nat.lt_of_lt_of_le (by first | assumption | simp) hb.size) | (go_at_call 18; refine (stripes_any _ _ _ _).mono ?_; rintro e w1 ⟨rfl, hb⟩; obtain ⟨hc, hf⟩ := bcell hb; have hB := below_c (w0 := w) (by assumption) hb; have hlt : w.heap.size < w1.heap.size := Nat.lt_of_lt_of_le (by first | assumption | simp) hb.size))
    go_ret
    exact ⟨by rw [hv.out]; rfl, hB⟩
  · have hv := Lib.hid (gSectors_eq K M B hR)
    go_enter Try.func20, Try.ntmps20
    go_wp2_with (first | (go_at_call 14; refine (right_any _ _ _ _).mono ?_; rintro e w1 ⟨rfl, hb⟩; obtain ⟨hc, hf⟩ := bcell hb; have hB := below_c (w0 := w) (by assumption) hb; have hlt : w.heap.size < w1.heap.size := Nat.lt_of_lt_of_le (by first | assumption | simp) hb.size))
    refine wp_region_cls (Below w1.heap.size w1) (by kernel_rfl) (by kernel_rfl) (Below.refl _ _).drew ?_
    intro Z f hne hD hE
    have q0 : ∀ z, (f z).cell? ⟨w.heap.size, 0, none⟩ = some (.int .i64 K) := fun z => by rw [clsCell hD z _ _ hlt, hc _ _ (by simp)]; simp
    have q1 : ∀ z, (f z).cell? ⟨w.heap.size, 1, none⟩ = some (.int .i64 M) := fun z => by rw [clsCell hD z _ _ hlt, hc _ _ (by simp)]; simp
    have q2 : ∀ z, (f z).cell? ⟨w.heap.size, 2, none⟩ = some (.int .i64 B) := fun z => by rw [clsCell hD z _ _ hlt, hc _ _ (by simp)]; simp
    repeat (go_big_quiet_step (first | (go_at_call 36; exact toQB hD hE _ (shards_any _ _ _ _)) | (go_at_call 18; exact toQB hD hE _ (stripes_any _ _ _ _))))
    refine wpQuiet_nil ?_
    intro _ hw'
    obtain ⟨zq, hw''⟩ := hw'
    subst hw''
    have hz := hD zq
    go_wp2
    go_ret
    exact ⟨by rw [hv.out]; rfl, below_c hB hz⟩
set_option maxRecDepth 100000 in
set_option maxHeartbeats 1000000 in
theorem rsectors_any (K M B : Int) (w : World) :
    Calls Try.prog 21 #[.agg #[.int .i64 K, .int .i64 M, .int .i64 B]] w fun e w' => e = .returned (.int .i64 (gSectors K M B)) ∧ Below w.heap.size w w' := by
  have hB0 : Below w.heap.size w (w.alloc (.cells #[.int .i64 K, .int .i64 M, .int .i64 B] 23)) := (Below.refl _ _).alloc (Nat.le_refl _) _
  have r1 := body_rng K M B
  have r2 := stripes_rng K M B
  cases hR : gR K M B
  · have hv : Hid (gSectors K M B = 0) := Lib.hid (by unfold gSectors; rw [hR]; rfl)
    go_enter Try.func21, Try.ntmps21
    go_wp2_with (first | (go_at_call 15; refine (rright_any _ _ _ _).mono ?_; rintro e w1 ⟨rfl, hb⟩; obtain ⟨hc, hf⟩ := bcell hb; have hB := below_c (w0 := w) (by assumption) hb; have hlt : w.heap.size < w1.heap.size := Nat.lt_of_lt_of_le (by first | assumption | simp) hb.size) | (go_at_call 23; refine (rbody_any _ _ _ _).mono ?_; rintro e w1 ⟨rfl, hb⟩; obtain ⟨hc, hf⟩ := bcell hb; have hB := below_c (w0 := w) (by assumption) hb; have hlt : w.heap.size < w1.heap.size := Nat.lt_of_lt_of_le (by first | assumption | simp) hb.size) | (go_at_call 19; refine (rstripes_any _ _ _ _).mono ?_; rintro e w1 ⟨rfl, hb⟩; obtain ⟨hc, hf⟩ := bcell hb; have hB := below_c (w0 := w) (by assumption) hb; have hlt : w.heap.size < w1.heap.size := Nat.lt_of_lt_of_le (by first | assumption | simp) hb.size))
    go_ret
    exact ⟨by rw [hv.out]; rfl, hB⟩
  · have hv := Lib.hid (gSectors_eq K M B hR)
    go_enter Try.func21, Try.ntmps21
    go_wp2_with (first | (go_at_call 15; refine (rright_any _ _ _ _).mono ?_; rintro e w1 ⟨rfl, hb⟩; obtain ⟨hc, hf⟩ := bcell hb; have hB := below_c (w0 := w) (by assumption) hb; have hlt : w.heap.size < w1.heap.size := Nat.lt_of_lt_of_le (by first | assumption | simp) hb.size))
    refine wp_region_cls (Below w1.heap.size w1) (by kernel_rfl) (by kernel_rfl) (Below.refl _ _).drew ?_
    intro Z f hne hD hE
    have q0 : ∀ z, (f z).cell? ⟨w.heap.size, 0, none⟩ = some (.int .i64 K) := fun z => by rw [clsCell hD z _ _ hlt, hc _ _ (by simp)]; simp
    have q1 : ∀ z, (f z).cell? ⟨w.heap.size, 1, none⟩ = some (.int .i64 M) := fun z => by rw [clsCell hD z _ _ hlt, hc _ _ (by simp)]; simp
    have q2 : ∀ z, (f z).cell? ⟨w.heap.size, 2, none⟩ = some (.int .i64 B) := fun z => by rw [clsCell hD z _ _ hlt, hc _ _ (by simp)]; simp
    repeat (go_big_quiet_step (first | (go_at_call 23; exact toQB hD hE _ (rbody_any _ _ _ _)) | (go_at_call 19; exact toQB hD hE _ (rstripes_any _ _ _ _))))
    refine wpQuiet_nil ?_
    intro _ hw'
    obtain ⟨zq, hw''⟩ := hw'
    subst hw''
    have hz := hD zq
    go_wp2
    go_ret
    exact ⟨by rw [hv.out]; rfl, below_c hB hz⟩
/-- Is there such a stripe? -/
def gHas (K M B s : Int) : Bool := decide (0 ≤ s ∧ s < gStripes K M B)
theorem gHas_true {K M B s : Int} (h : gHas K M B s = true) : 0 ≤ s ∧ s < gStripes K M B := by simpa [gHas] using h
set_option maxRecDepth 100000 in
set_option maxHeartbeats 1000000 in
theorem has_any (K M B : Int) (s : Int) (w : World) :
    Calls Try.prog 38 #[.agg #[.int .i64 K, .int .i64 M, .int .i64 B], .int .i64 s] w fun e w' => e = .returned (.bool (gHas K M B s)) ∧ Below w.heap.size w w' := by
  have hB0 : Below w.heap.size w (w.alloc (.cells #[.int .i64 K, .int .i64 M, .int .i64 B] 23)) := (Below.refl _ _).alloc (Nat.le_refl _) _
  by_cases h1 : 0 ≤ s
  · by_cases h2 : s < gStripes K M B
    · have hv : Hid (gHas K M B s = true) := Lib.hid (by simp [gHas]; omega)
      go_enter Try.func38, Try.ntmps38
      go_wp2_with (first | (go_at_call 18; refine (stripes_any _ _ _ _).mono ?_; rintro e w1 ⟨rfl, hb⟩; obtain ⟨hc, hf⟩ := bcell hb; have hB := below_c (w0 := w) (by assumption) hb; have hlt : w.heap.size < w1.heap.size := Nat.lt_of_lt_of_le (by first | assumption | simp) hb.size))
      go_ret
      exact ⟨by rw [hv.out]; rfl, hB⟩
    · have hv : Hid (gHas K M B s = false) := Lib.hid (by simp [gHas]; omega)
      have h3 : decide (s < gStripes K M B) = false := by simpa using h2
      go_enter Try.func38, Try.ntmps38
      go_wp2_with (first | (go_at_call 18; refine (stripes_any _ _ _ _).mono ?_; rintro e w1 ⟨rfl, hb⟩; obtain ⟨hc, hf⟩ := bcell hb; have hB := below_c (w0 := w) (by assumption) hb; have hlt : w.heap.size < w1.heap.size := Nat.lt_of_lt_of_le (by first | assumption | simp) hb.size))
      go_ret
      exact ⟨by rw [hv.out]; rfl, hB⟩
  · have hv : Hid (gHas K M B s = false) := Lib.hid (by simp [gHas]; omega)
    have h3 : decide (0 ≤ s) = false := by simpa using h1
    go_enter Try.func38, Try.ntmps38
    go_wp2_with (first | (go_at_call 18; refine (stripes_any _ _ _ _).mono ?_; rintro e w1 ⟨rfl, hb⟩; obtain ⟨hc, hf⟩ := bcell hb; have hB := below_c (w0 := w) (by assumption) hb; have hlt : w.heap.size < w1.heap.size := Nat.lt_of_lt_of_le (by first | assumption | simp) hb.size))
    go_ret
    exact ⟨by rw [hv.out]; rfl, hB0⟩
set_option maxRecDepth 100000 in
set_option maxHeartbeats 1000000 in
theorem rhas_any (K M B : Int) (s : Int) (w : World) :
    Calls Try.prog 37 #[.agg #[.int .i64 K, .int .i64 M, .int .i64 B], .int .i64 s] w fun e w' => e = .returned (.bool (gHas K M B s)) ∧ Below w.heap.size w w' := by
  have hB0 : Below w.heap.size w (w.alloc (.cells #[.int .i64 K, .int .i64 M, .int .i64 B] 23)) := (Below.refl _ _).alloc (Nat.le_refl _) _
  by_cases h1 : 0 ≤ s
  · by_cases h2 : s < gStripes K M B
    · have hv : Hid (gHas K M B s = true) := Lib.hid (by simp [gHas]; omega)
      go_enter Try.func37, Try.ntmps37
      go_wp2_with (first | (go_at_call 19; refine (rstripes_any _ _ _ _).mono ?_; rintro e w1 ⟨rfl, hb⟩; obtain ⟨hc, hf⟩ := bcell hb; have hB := below_c (w0 := w) (by assumption) hb; have hlt : w.heap.size < w1.heap.size := Nat.lt_of_lt_of_le (by first | assumption | simp) hb.size))
      go_ret
      exact ⟨by rw [hv.out]; rfl, hB⟩
    · have hv : Hid (gHas K M B s = false) := Lib.hid (by simp [gHas]; omega)
      have h3 : decide (s < gStripes K M B) = false := by simpa using h2
      go_enter Try.func37, Try.ntmps37
      go_wp2_with (first | (go_at_call 19; refine (rstripes_any _ _ _ _).mono ?_; rintro e w1 ⟨rfl, hb⟩; obtain ⟨hc, hf⟩ := bcell hb; have hB := below_c (w0 := w) (by assumption) hb; have hlt : w.heap.size < w1.heap.size := Nat.lt_of_lt_of_le (by first | assumption | simp) hb.size))
      go_ret
      exact ⟨by rw [hv.out]; rfl, hB⟩
  · have hv : Hid (gHas K M B s = false) := Lib.hid (by simp [gHas]; omega)
    have h3 : decide (0 ≤ s) = false := by simpa using h1
    go_enter Try.func37, Try.ntmps37
    go_wp2_with (first | (go_at_call 19; refine (rstripes_any _ _ _ _).mono ?_; rintro e w1 ⟨rfl, hb⟩; obtain ⟨hc, hf⟩ := bcell hb; have hB := below_c (w0 := w) (by assumption) hb; have hlt : w.heap.size < w1.heap.size := Nat.lt_of_lt_of_le (by first | assumption | simp) hb.size))
    go_ret
    exact ⟨by rw [hv.out]; rfl, hB0⟩
end Go.Proofs.Ytfepfmibcjlkiaa
