/- The calls of geo, walked: places. -/
import Derived.Test.YtfepfmibcjlkiaaGeoWalk2
namespace Go.Proofs.Ytfepfmibcjlkiaa
open Go.RowKit
set_option linter.unusedVariables false
set_option linter.unusedSimpArgs false

/-- Is there such a shard, or slot? -/
def gShard (K M B s i : Int) : Bool := gHas K M B s && decide (0 ≤ i ∧ i < gSlots K M B)
theorem gShard_true {K M B s i : Int} (h : gShard K M B s i = true) : gHas K M B s = true ∧ 0 ≤ i ∧ i < gSlots K M B := by simpa [gShard] using h
theorem slots_pos {K M B s : Int} (h : gHas K M B s = true) : gR K M B = true ∧ gSlots K M B = K + M := by
  have h1 := gHas_true h
  have : gR K M B = true := by
    cases hR : gR K M B
    · have : gStripes K M B = 0 := by unfold gStripes; rw [hR]; rfl
      omega
    · rfl
  exact ⟨this, by unfold gSlots; rw [this]; rfl⟩
def gSlot (K M B s i : Int) : Int := if gShard K M B s i then (i + s) % (K + M) else -1
def gIndex (K M B s t : Int) : Int := if gShard K M B s t then (t + (K + M) - s % (K + M)) % (K + M) else -1
def gSector (K M B s : Int) : Int := if gHas K M B s then gShards K M B + s else -1
def gHead (K M B q : Int) : Int := if gR K M B && decide (0 ≤ q) then 2 + q % 2 * (1 + 16 * K) else -1
def gIs (K M B s i : Int) : Bool := gShard K M B s i && decide (i < K) && decide (s * K + i < B)
def gBlock (K M B s i : Int) : Int := if gIs K M B s i then s * K + i else 0
theorem gBlock_no {K M B s i : Int} (h : gIs K M B s i = false) : gIs K M B s i = false ∧ gBlock K M B s i = 0 := ⟨h, by unfold gBlock; rw [h]; rfl⟩
theorem gBlock_yes {K M B s i : Int} (h : gIs K M B s i = true) : gIs K M B s i = true ∧ gBlock K M B s i = s * K + i := ⟨h, by unfold gBlock; rw [h]; rfl⟩
set_option maxRecDepth 100000 in
set_option maxHeartbeats 1000000 in
theorem shard_any (K M B : Int) (s : Int) (i : Int) (w : World) :
    Calls Try.prog 34 #[.agg #[.int .i64 K, .int .i64 M, .int .i64 B], .int .i64 s, .int .i64 i] w fun e w' => e = .returned (.bool (gShard K M B s i)) ∧ Below w.heap.size w w' := by
  have hB0 : Below w.heap.size w (w.alloc (.cells #[.int .i64 K, .int .i64 M, .int .i64 B] 23)) := (Below.refl _ _).alloc (Nat.le_refl _) _
  cases h1 : gHas K M B s
  · have hv : Hid (gShard K M B s i = false) := Lib.hid (by simp [gShard, h1])
    go_enter Try.func34, Try.ntmps34
    go_wp2_with (first | (go_at_call 38; refine (has_any _ _ _ _ _).mono ?_; rintro e w1 ⟨rfl, hb⟩; obtain ⟨hc, hf⟩ := bcell hb; have hB := below_c (w0 := w) (by assumption) hb; have hlt : w.heap.size < w1.heap.size := Nat.lt_of_lt_of_le (by first | assumption | simp) hb.size) | (go_at_call 16; refine (slots_any _ _ _ _).mono ?_; rintro e w1 ⟨rfl, hb⟩; obtain ⟨hc, hf⟩ := bcell hb; have hB := below_c (w0 := w) (by assumption) hb; have hlt : w.heap.size < w1.heap.size := Nat.lt_of_lt_of_le (by first | assumption | simp) hb.size))
    go_ret
    exact ⟨by rw [hv.out]; rfl, hB⟩
  · by_cases h2 : 0 ≤ i
    · by_cases h3 : i < gSlots K M B
      · have hv : Hid (gShard K M B s i = true) := Lib.hid (by simp [gShard, h1]; omega)
        go_enter Try.func34, Try.ntmps34
        go_wp2_with (first | (go_at_call 38; refine (has_any _ _ _ _ _).mono ?_; rintro e w1 ⟨rfl, hb⟩; obtain ⟨hc, hf⟩ := bcell hb; have hB := below_c (w0 := w) (by assumption) hb; have hlt : w.heap.size < w1.heap.size := Nat.lt_of_lt_of_le (by first | assumption | simp) hb.size) | (go_at_call 16; refine (slots_any _ _ _ _).mono ?_; rintro e w1 ⟨rfl, hb⟩; obtain ⟨hc, hf⟩ := bcell hb; have hB := below_c (w0 := w) (by assumption) hb; have hlt : w.heap.size < w1.heap.size := Nat.lt_of_lt_of_le (by first | assumption | simp) hb.size))
        go_ret
        exact ⟨by rw [hv.out]; rfl, hB⟩
      · have hv : Hid (gShard K M B s i = false) := Lib.hid (by simp [gShard, h1]; omega)
        have h4 : decide (i < gSlots K M B) = false := by simpa using h3
        go_enter Try.func34, Try.ntmps34
        go_wp2_with (first | (go_at_call 38; refine (has_any _ _ _ _ _).mono ?_; rintro e w1 ⟨rfl, hb⟩; obtain ⟨hc, hf⟩ := bcell hb; have hB := below_c (w0 := w) (by assumption) hb; have hlt : w.heap.size < w1.heap.size := Nat.lt_of_lt_of_le (by first | assumption | simp) hb.size) | (go_at_call 16; refine (slots_any _ _ _ _).mono ?_; rintro e w1 ⟨rfl, hb⟩; obtain ⟨hc, hf⟩ := bcell hb; have hB := below_c (w0 := w) (by assumption) hb; have hlt : w.heap.size < w1.heap.size := Nat.lt_of_lt_of_le (by first | assumption | simp) hb.size))
        go_ret
        exact ⟨by rw [hv.out]; rfl, hB⟩
    · have hv : Hid (gShard K M B s i = false) := Lib.hid (by simp [gShard, h1]; omega)
      have h4 : decide (0 ≤ i) = false := by simpa using h2
      go_enter Try.func34, Try.ntmps34
      go_wp2_with (first | (go_at_call 38; refine (has_any _ _ _ _ _).mono ?_; rintro e w1 ⟨rfl, hb⟩; obtain ⟨hc, hf⟩ := bcell hb; have hB := below_c (w0 := w) (by assumption) hb; have hlt : w.heap.size < w1.heap.size := Nat.lt_of_lt_of_le (by first | assumption | simp) hb.size) | (go_at_call 16; refine (slots_any _ _ _ _).mono ?_; rintro e w1 ⟨rfl, hb⟩; obtain ⟨hc, hf⟩ := bcell hb; have hB := below_c (w0 := w) (by assumption) hb; have hlt : w.heap.size < w1.heap.size := Nat.lt_of_lt_of_le (by first | assumption | simp) hb.size))
      go_ret
      exact ⟨by rw [hv.out]; rfl, hB⟩
set_option maxRecDepth 100000 in
set_option maxHeartbeats 1000000 in
theorem slot_any (K M B : Int) (s : Int) (i : Int) (w : World) :
    Calls Try.prog 24 #[.agg #[.int .i64 K, .int .i64 M, .int .i64 B], .int .i64 s, .int .i64 i] w fun e w' => e = .returned (.int .i64 (gSlot K M B s i)) ∧ Below w.heap.size w w' := by
  have hB0 : Below w.heap.size w (w.alloc (.cells #[.int .i64 K, .int .i64 M, .int .i64 B] 23)) := (Below.refl _ _).alloc (Nat.le_refl _) _
  cases h1 : gShard K M B s i
  · have hv : Hid (gSlot K M B s i = -1) := Lib.hid (by unfold gSlot; rw [h1]; rfl)
    go_enter Try.func24, Try.ntmps24
    go_wp2_with (first | (go_at_call 34; refine (shard_any _ _ _ _ _ _).mono ?_; rintro e w1 ⟨rfl, hb⟩; obtain ⟨hc, hf⟩ := bcell hb; have hB := below_c (w0 := w) (by assumption) hb; have hlt : w.heap.size < w1.heap.size := Nat.lt_of_lt_of_le (by first | assumption | simp) hb.size) | (go_at_call 16; refine (slots_any _ _ _ _).mono ?_; rintro e w1 ⟨rfl, hb⟩; obtain ⟨hc, hf⟩ := bcell hb; have hB := below_c (w0 := w) (by assumption) hb; have hlt : w.heap.size < w1.heap.size := Nat.lt_of_lt_of_le (by first | assumption | simp) hb.size))
    go_ret
    exact ⟨by rw [hv.out]; rfl, hB⟩
  · have hv : Hid (gSlot K M B s i = (i + s) % (K + M)) := Lib.hid (by unfold gSlot; rw [h1]; rfl)
    obtain ⟨x1, x2, x3⟩ := gShard_true h1
    obtain ⟨x4, x5⟩ := slots_pos x1
    have x6 := gHas_true x1
    have x7 := stripes_rng K M B
    obtain ⟨k1, k2, m1, m2, b1, b2⟩ := gR_true x4
    rw [x5] at x3
    have X1 := Lib.hid x1
    clear x1 x4
    go_enter Try.func24, Try.ntmps24
    go_wp2_with (first | (go_at_call 34; refine (shard_any _ _ _ _ _ _).mono ?_; rintro e w1 ⟨rfl, hb⟩; obtain ⟨hc, hf⟩ := bcell hb; have hB := below_c (w0 := w) (by assumption) hb; have hlt : w.heap.size < w1.heap.size := Nat.lt_of_lt_of_le (by first | assumption | simp) hb.size) | (go_at_call 16; refine (slots_any _ _ _ _).mono ?_; rintro e w1 ⟨rfl, hb⟩; obtain ⟨hc, hf⟩ := bcell hb; have hB := below_c (w0 := w) (by assumption) hb; have hlt : w.heap.size < w1.heap.size := Nat.lt_of_lt_of_le (by first | assumption | simp) hb.size))
    go_ret
    exact ⟨by rw [hv.out]; rfl, hB⟩
set_option maxRecDepth 100000 in
set_option maxHeartbeats 1000000 in
theorem rslot_any (K M B : Int) (s : Int) (i : Int) (w : World) :
    Calls Try.prog 25 #[.agg #[.int .i64 K, .int .i64 M, .int .i64 B], .int .i64 s, .int .i64 i] w fun e w' => e = .returned (.int .i64 (gSlot K M B s i)) ∧ Below w.heap.size w w' := by
  have hB0 : Below w.heap.size w (w.alloc (.cells #[.int .i64 K, .int .i64 M, .int .i64 B] 23)) := (Below.refl _ _).alloc (Nat.le_refl _) _
  cases h0 : gHas K M B s
  · have hv : Hid (gSlot K M B s i = -1) := Lib.hid (by unfold gSlot gShard; rw [h0]; rfl)
    go_enter Try.func25, Try.ntmps25
    go_wp2_with (first | (go_at_call 37; refine (rhas_any _ _ _ _ _).mono ?_; rintro e w1 ⟨rfl, hb⟩; obtain ⟨hc, hf⟩ := bcell hb; have hB := below_c (w0 := w) (by assumption) hb; have hlt : w.heap.size < w1.heap.size := Nat.lt_of_lt_of_le (by first | assumption | simp) hb.size) | (go_at_call 17; refine (rslots_any _ _ _ _).mono ?_; rintro e w1 ⟨rfl, hb⟩; obtain ⟨hc, hf⟩ := bcell hb; have hB := below_c (w0 := w) (by assumption) hb; have hlt : w.heap.size < w1.heap.size := Nat.lt_of_lt_of_le (by first | assumption | simp) hb.size))
    go_ret
    exact ⟨by rw [hv.out]; rfl, hB⟩
  · by_cases h2 : i < 0
    · have hv : Hid (gSlot K M B s i = -1) := Lib.hid (by unfold gSlot gShard; rw [h0, if_neg (by simp; omega)])
      go_enter Try.func25, Try.ntmps25
      go_wp2_with (first | (go_at_call 37; refine (rhas_any _ _ _ _ _).mono ?_; rintro e w1 ⟨rfl, hb⟩; obtain ⟨hc, hf⟩ := bcell hb; have hB := below_c (w0 := w) (by assumption) hb; have hlt : w.heap.size < w1.heap.size := Nat.lt_of_lt_of_le (by first | assumption | simp) hb.size) | (go_at_call 17; refine (rslots_any _ _ _ _).mono ?_; rintro e w1 ⟨rfl, hb⟩; obtain ⟨hc, hf⟩ := bcell hb; have hB := below_c (w0 := w) (by assumption) hb; have hlt : w.heap.size < w1.heap.size := Nat.lt_of_lt_of_le (by first | assumption | simp) hb.size))
      go_ret
      exact ⟨by rw [hv.out]; rfl, hB⟩
    · by_cases h3 : gSlots K M B ≤ i
      · have hv : Hid (gSlot K M B s i = -1) := Lib.hid (by unfold gSlot gShard; rw [h0, if_neg (by simp; omega)])
        have t : decide (i < 0) = false := by simpa using h2
        go_enter Try.func25, Try.ntmps25
        go_wp2_with (first | (go_at_call 37; refine (rhas_any _ _ _ _ _).mono ?_; rintro e w1 ⟨rfl, hb⟩; obtain ⟨hc, hf⟩ := bcell hb; have hB := below_c (w0 := w) (by assumption) hb; have hlt : w.heap.size < w1.heap.size := Nat.lt_of_lt_of_le (by first | assumption | simp) hb.size) | (go_at_call 17; refine (rslots_any _ _ _ _).mono ?_; rintro e w1 ⟨rfl, hb⟩; obtain ⟨hc, hf⟩ := bcell hb; have hB := below_c (w0 := w) (by assumption) hb; have hlt : w.heap.size < w1.heap.size := Nat.lt_of_lt_of_le (by first | assumption | simp) hb.size))
        go_ret
        exact ⟨by rw [hv.out]; rfl, hB⟩
      · have h1 : gShard K M B s i = true := by simp [gShard, h0]; omega
        have t : decide (i < 0) = false := by simpa using h2
        have t2 : decide (gSlots K M B ≤ i) = false := by simpa using h3
        have hv : Hid (gSlot K M B s i = (i + s) % (K + M)) := Lib.hid (by unfold gSlot; rw [h1]; rfl)
        obtain ⟨x1, x2, x3⟩ := gShard_true h1
        obtain ⟨x4, x5⟩ := slots_pos x1
        have x6 := gHas_true x1
        have x7 := stripes_rng K M B
        obtain ⟨k1, k2, m1, m2, b1, b2⟩ := gR_true x4
        rw [x5] at x3
        have X1 := Lib.hid x1
        rw [x5] at t2
        clear x1 x4 h1 h3
        go_enter Try.func25, Try.ntmps25
        go_wp2_with (first | (go_at_call 37; refine (rhas_any _ _ _ _ _).mono ?_; rintro e w1 ⟨rfl, hb⟩; obtain ⟨hc, hf⟩ := bcell hb; have hB := below_c (w0 := w) (by assumption) hb; have hlt : w.heap.size < w1.heap.size := Nat.lt_of_lt_of_le (by first | assumption | simp) hb.size) | (go_at_call 17; refine (rslots_any _ _ _ _).mono ?_; rintro e w1 ⟨rfl, hb⟩; obtain ⟨hc, hf⟩ := bcell hb; have hB := below_c (w0 := w) (by assumption) hb; have hlt : w.heap.size < w1.heap.size := Nat.lt_of_lt_of_le (by first | assumption | simp) hb.size))
        go_ret
        exact ⟨by rw [hv.out]; rfl, hB⟩
set_option maxRecDepth 100000 in
set_option maxHeartbeats 1000000 in
theorem index_any (K M B : Int) (s : Int) (i : Int) (w : World) :
    Calls Try.prog 26 #[.agg #[.int .i64 K, .int .i64 M, .int .i64 B], .int .i64 s, .int .i64 i] w fun e w' => e = .returned (.int .i64 (gIndex K M B s i)) ∧ Below w.heap.size w w' := by
  have hB0 : Below w.heap.size w (w.alloc (.cells #[.int .i64 K, .int .i64 M, .int .i64 B] 23)) := (Below.refl _ _).alloc (Nat.le_refl _) _
  cases h1 : gShard K M B s i
  · have hv : Hid (gIndex K M B s i = -1) := Lib.hid (by unfold gIndex; rw [h1]; rfl)
    go_enter Try.func26, Try.ntmps26
    go_wp2_with (first | (go_at_call 34; refine (shard_any _ _ _ _ _ _).mono ?_; rintro e w1 ⟨rfl, hb⟩; obtain ⟨hc, hf⟩ := bcell hb; have hB := below_c (w0 := w) (by assumption) hb; have hlt : w.heap.size < w1.heap.size := Nat.lt_of_lt_of_le (by first | assumption | simp) hb.size) | (go_at_call 16; refine (slots_any _ _ _ _).mono ?_; rintro e w1 ⟨rfl, hb⟩; obtain ⟨hc, hf⟩ := bcell hb; have hB := below_c (w0 := w) (by assumption) hb; have hlt : w.heap.size < w1.heap.size := Nat.lt_of_lt_of_le (by first | assumption | simp) hb.size))
    go_ret
    exact ⟨by rw [hv.out]; rfl, hB⟩
  · have hv : Hid (gIndex K M B s i = (i + (K + M) - s % (K + M)) % (K + M)) := Lib.hid (by unfold gIndex; rw [h1]; rfl)
    obtain ⟨x1, x2, x3⟩ := gShard_true h1
    obtain ⟨x4, x5⟩ := slots_pos x1
    have x6 := gHas_true x1
    have x7 := stripes_rng K M B
    obtain ⟨k1, k2, m1, m2, b1, b2⟩ := gR_true x4
    rw [x5] at x3
    have X1 := Lib.hid x1
    have y1 : 0 ≤ s % (K + M) := Int.emod_nonneg _ (by omega)
    have y2 : s % (K + M) < K + M := Int.emod_lt_of_pos _ (by omega)
    clear x1 x4
    go_enter Try.func26, Try.ntmps26
    go_wp2_with (first | (go_at_call 34; refine (shard_any _ _ _ _ _ _).mono ?_; rintro e w1 ⟨rfl, hb⟩; obtain ⟨hc, hf⟩ := bcell hb; have hB := below_c (w0 := w) (by assumption) hb; have hlt : w.heap.size < w1.heap.size := Nat.lt_of_lt_of_le (by first | assumption | simp) hb.size) | (go_at_call 16; refine (slots_any _ _ _ _).mono ?_; rintro e w1 ⟨rfl, hb⟩; obtain ⟨hc, hf⟩ := bcell hb; have hB := below_c (w0 := w) (by assumption) hb; have hlt : w.heap.size < w1.heap.size := Nat.lt_of_lt_of_le (by first | assumption | simp) hb.size))
    go_ret
    exact ⟨by rw [hv.out]; rfl, hB⟩
set_option maxRecDepth 100000 in
set_option maxHeartbeats 1000000 in
theorem sector_any (K M B : Int) (s : Int) (w : World) :
    Calls Try.prog 28 #[.agg #[.int .i64 K, .int .i64 M, .int .i64 B], .int .i64 s] w fun e w' => e = .returned (.int .i64 (gSector K M B s)) ∧ Below w.heap.size w w' := by
  have hB0 : Below w.heap.size w (w.alloc (.cells #[.int .i64 K, .int .i64 M, .int .i64 B] 23)) := (Below.refl _ _).alloc (Nat.le_refl _) _
  have r1 := shards_rng K M B
  have r2 := stripes_rng K M B
  cases h1 : gHas K M B s
  · have hv : Hid (gSector K M B s = -1) := Lib.hid (by unfold gSector; rw [h1]; rfl)
    go_enter Try.func28, Try.ntmps28
    go_wp2_with (first | (go_at_call 38; refine (has_any _ _ _ _ _).mono ?_; rintro e w1 ⟨rfl, hb⟩; obtain ⟨hc, hf⟩ := bcell hb; have hB := below_c (w0 := w) (by assumption) hb; have hlt : w.heap.size < w1.heap.size := Nat.lt_of_lt_of_le (by first | assumption | simp) hb.size) | (go_at_call 36; refine (shards_any _ _ _ _).mono ?_; rintro e w1 ⟨rfl, hb⟩; obtain ⟨hc, hf⟩ := bcell hb; have hB := below_c (w0 := w) (by assumption) hb; have hlt : w.heap.size < w1.heap.size := Nat.lt_of_lt_of_le (by first | assumption | simp) hb.size))
    go_ret
    exact ⟨by rw [hv.out]; rfl, hB⟩
  · have hv : Hid (gSector K M B s = gShards K M B + s) := Lib.hid (by unfold gSector; rw [h1]; rfl)
    have x6 := gHas_true h1
    go_enter Try.func28, Try.ntmps28
    go_wp2_with (first | (go_at_call 38; refine (has_any _ _ _ _ _).mono ?_; rintro e w1 ⟨rfl, hb⟩; obtain ⟨hc, hf⟩ := bcell hb; have hB := below_c (w0 := w) (by assumption) hb; have hlt : w.heap.size < w1.heap.size := Nat.lt_of_lt_of_le (by first | assumption | simp) hb.size) | (go_at_call 36; refine (shards_any _ _ _ _).mono ?_; rintro e w1 ⟨rfl, hb⟩; obtain ⟨hc, hf⟩ := bcell hb; have hB := below_c (w0 := w) (by assumption) hb; have hlt : w.heap.size < w1.heap.size := Nat.lt_of_lt_of_le (by first | assumption | simp) hb.size))
    go_ret
    exact ⟨by rw [hv.out]; rfl, hB⟩
set_option maxRecDepth 100000 in
set_option maxHeartbeats 1000000 in
theorem rsector_any (K M B : Int) (s : Int) (w : World) :
    Calls Try.prog 29 #[.agg #[.int .i64 K, .int .i64 M, .int .i64 B], .int .i64 s] w fun e w' => e = .returned (.int .i64 (gSector K M B s)) ∧ Below w.heap.size w w' := by
  have hB0 : Below w.heap.size w (w.alloc (.cells #[.int .i64 K, .int .i64 M, .int .i64 B] 23)) := (Below.refl _ _).alloc (Nat.le_refl _) _
  have r1 := body_rng K M B
  have r2 := stripes_rng K M B
  cases h1 : gHas K M B s
  · have hv : Hid (gSector K M B s = -1) := Lib.hid (by unfold gSector; rw [h1]; rfl)
    go_enter Try.func29, Try.ntmps29
    go_wp2_with (first | (go_at_call 37; refine (rhas_any _ _ _ _ _).mono ?_; rintro e w1 ⟨rfl, hb⟩; obtain ⟨hc, hf⟩ := bcell hb; have hB := below_c (w0 := w) (by assumption) hb; have hlt : w.heap.size < w1.heap.size := Nat.lt_of_lt_of_le (by first | assumption | simp) hb.size) | (go_at_call 23; refine (rbody_any _ _ _ _).mono ?_; rintro e w1 ⟨rfl, hb⟩; obtain ⟨hc, hf⟩ := bcell hb; have hB := below_c (w0 := w) (by assumption) hb; have hlt : w.heap.size < w1.heap.size := Nat.lt_of_lt_of_le (by first | assumption | simp) hb.size))
    go_ret
    exact ⟨by rw [hv.out]; rfl, hB⟩
  · have hv : Hid (gSector K M B s = 2 + 2 * (1 + gBody K M B) + s) := Lib.hid (by unfold gSector; rw [h1]; rfl)
    have x6 := gHas_true h1
    go_enter Try.func29, Try.ntmps29
    go_wp2_with (first | (go_at_call 37; refine (rhas_any _ _ _ _ _).mono ?_; rintro e w1 ⟨rfl, hb⟩; obtain ⟨hc, hf⟩ := bcell hb; have hB := below_c (w0 := w) (by assumption) hb; have hlt : w.heap.size < w1.heap.size := Nat.lt_of_lt_of_le (by first | assumption | simp) hb.size) | (go_at_call 23; refine (rbody_any _ _ _ _).mono ?_; rintro e w1 ⟨rfl, hb⟩; obtain ⟨hc, hf⟩ := bcell hb; have hB := below_c (w0 := w) (by assumption) hb; have hlt : w.heap.size < w1.heap.size := Nat.lt_of_lt_of_le (by first | assumption | simp) hb.size))
    go_ret
    exact ⟨by rw [hv.out]; rfl, hB⟩
set_option maxRecDepth 100000 in
set_option maxHeartbeats 1000000 in
theorem head_any (K M B : Int) (q : Int) (w : World) (hq : q ≤ 9223372036854775807) :
    Calls Try.prog 30 #[.agg #[.int .i64 K, .int .i64 M, .int .i64 B], .int .i64 q] w fun e w' => e = .returned (.int .i64 (gHead K M B q)) ∧ Below w.heap.size w w' := by
  have hB0 : Below w.heap.size w (w.alloc (.cells #[.int .i64 K, .int .i64 M, .int .i64 B] 23)) := (Below.refl _ _).alloc (Nat.le_refl _) _
  have r1 := body_rng K M B
  cases hR : gR K M B
  · have hv : Hid (gHead K M B q = -1) := Lib.hid (by unfold gHead; rw [hR]; rfl)
    go_enter Try.func30, Try.ntmps30
    go_wp2_with (first | (go_at_call 14; refine (right_any _ _ _ _).mono ?_; rintro e w1 ⟨rfl, hb⟩; obtain ⟨hc, hf⟩ := bcell hb; have hB := below_c (w0 := w) (by assumption) hb; have hlt : w.heap.size < w1.heap.size := Nat.lt_of_lt_of_le (by first | assumption | simp) hb.size) | (go_at_call 39; refine (bay_any _ _ _ _).mono ?_; rintro e w1 ⟨rfl, hb⟩; obtain ⟨hc, hf⟩ := bcell hb; have hB := below_c (w0 := w) (by assumption) hb; have hlt : w.heap.size < w1.heap.size := Nat.lt_of_lt_of_le (by first | assumption | simp) hb.size))
    go_ret
    exact ⟨by rw [hv.out]; rfl, hB⟩
  · by_cases h0 : q < 0
    · have hv : Hid (gHead K M B q = -1) := Lib.hid (by unfold gHead; rw [hR, if_neg (by simp; omega)])
      go_enter Try.func30, Try.ntmps30
      go_wp2_with (first | (go_at_call 14; refine (right_any _ _ _ _).mono ?_; rintro e w1 ⟨rfl, hb⟩; obtain ⟨hc, hf⟩ := bcell hb; have hB := below_c (w0 := w) (by assumption) hb; have hlt : w.heap.size < w1.heap.size := Nat.lt_of_lt_of_le (by first | assumption | simp) hb.size) | (go_at_call 39; refine (bay_any _ _ _ _).mono ?_; rintro e w1 ⟨rfl, hb⟩; obtain ⟨hc, hf⟩ := bcell hb; have hB := below_c (w0 := w) (by assumption) hb; have hlt : w.heap.size < w1.heap.size := Nat.lt_of_lt_of_le (by first | assumption | simp) hb.size))
      go_ret
      exact ⟨by rw [hv.out]; rfl, hB⟩
    · have t : decide (q < 0) = false := by simpa using h0
      obtain ⟨k1, k2, m1, m2, b1, b2⟩ := gR_true hR
      have hv : Hid (gHead K M B q = 2 + q % 2 * (1 + gBody K M B)) := Lib.hid (by unfold gHead; rw [hR, gBody_eq hR, if_pos (by simp; omega)])
      have z1 : 0 ≤ q % 2 * (1 + gBody K M B) ∧ q % 2 * (1 + gBody K M B) ≤ 65 := by
        rcases (by omega : q % 2 = 0 ∨ q % 2 = 1) with e | e <;> rw [e] <;> omega
      go_enter Try.func30, Try.ntmps30
      go_wp2_with (first | (go_at_call 14; refine (right_any _ _ _ _).mono ?_; rintro e w1 ⟨rfl, hb⟩; obtain ⟨hc, hf⟩ := bcell hb; have hB := below_c (w0 := w) (by assumption) hb; have hlt : w.heap.size < w1.heap.size := Nat.lt_of_lt_of_le (by first | assumption | simp) hb.size) | (go_at_call 39; refine (bay_any _ _ _ _).mono ?_; rintro e w1 ⟨rfl, hb⟩; obtain ⟨hc, hf⟩ := bcell hb; have hB := below_c (w0 := w) (by assumption) hb; have hlt : w.heap.size < w1.heap.size := Nat.lt_of_lt_of_le (by first | assumption | simp) hb.size))
      go_ret
      exact ⟨by rw [hv.out]; rfl, hB⟩
set_option maxRecDepth 100000 in
set_option maxHeartbeats 1000000 in
theorem rhead_any (K M B : Int) (q : Int) (w : World) (hq : q ≤ 9223372036854775807) :
    Calls Try.prog 31 #[.agg #[.int .i64 K, .int .i64 M, .int .i64 B], .int .i64 q] w fun e w' => e = .returned (.int .i64 (gHead K M B q)) ∧ Below w.heap.size w w' := by
  have hB0 : Below w.heap.size w (w.alloc (.cells #[.int .i64 K, .int .i64 M, .int .i64 B] 23)) := (Below.refl _ _).alloc (Nat.le_refl _) _
  have r1 := body_rng K M B
  cases hR : gR K M B
  · have hv : Hid (gHead K M B q = -1) := Lib.hid (by unfold gHead; rw [hR]; rfl)
    go_enter Try.func31, Try.ntmps31
    go_wp2_with (first | (go_at_call 15; refine (rright_any _ _ _ _).mono ?_; rintro e w1 ⟨rfl, hb⟩; obtain ⟨hc, hf⟩ := bcell hb; have hB := below_c (w0 := w) (by assumption) hb; have hlt : w.heap.size < w1.heap.size := Nat.lt_of_lt_of_le (by first | assumption | simp) hb.size) | (go_at_call 23; refine (rbody_any _ _ _ _).mono ?_; rintro e w1 ⟨rfl, hb⟩; obtain ⟨hc, hf⟩ := bcell hb; have hB := below_c (w0 := w) (by assumption) hb; have hlt : w.heap.size < w1.heap.size := Nat.lt_of_lt_of_le (by first | assumption | simp) hb.size))
    go_ret
    exact ⟨by rw [hv.out]; rfl, hB⟩
  · by_cases h0 : q < 0
    · have hv : Hid (gHead K M B q = -1) := Lib.hid (by unfold gHead; rw [hR, if_neg (by simp; omega)])
      go_enter Try.func31, Try.ntmps31
      go_wp2_with (first | (go_at_call 15; refine (rright_any _ _ _ _).mono ?_; rintro e w1 ⟨rfl, hb⟩; obtain ⟨hc, hf⟩ := bcell hb; have hB := below_c (w0 := w) (by assumption) hb; have hlt : w.heap.size < w1.heap.size := Nat.lt_of_lt_of_le (by first | assumption | simp) hb.size) | (go_at_call 23; refine (rbody_any _ _ _ _).mono ?_; rintro e w1 ⟨rfl, hb⟩; obtain ⟨hc, hf⟩ := bcell hb; have hB := below_c (w0 := w) (by assumption) hb; have hlt : w.heap.size < w1.heap.size := Nat.lt_of_lt_of_le (by first | assumption | simp) hb.size))
      go_ret
      exact ⟨by rw [hv.out]; rfl, hB⟩
    · have t : decide (q < 0) = false := by simpa using h0
      by_cases h2 : q % 2 = 0
      · have hv : Hid (gHead K M B q = 2) := Lib.hid (by unfold gHead; rw [hR, if_pos (by simp; omega), h2]; omega)
        have t2 : (q % 2 == 0) = true := by rw [h2]; rfl
        clear h2
        go_enter Try.func31, Try.ntmps31
        go_wp2_with (first | (go_at_call 15; refine (rright_any _ _ _ _).mono ?_; rintro e w1 ⟨rfl, hb⟩; obtain ⟨hc, hf⟩ := bcell hb; have hB := below_c (w0 := w) (by assumption) hb; have hlt : w.heap.size < w1.heap.size := Nat.lt_of_lt_of_le (by first | assumption | simp) hb.size) | (go_at_call 23; refine (rbody_any _ _ _ _).mono ?_; rintro e w1 ⟨rfl, hb⟩; obtain ⟨hc, hf⟩ := bcell hb; have hB := below_c (w0 := w) (by assumption) hb; have hlt : w.heap.size < w1.heap.size := Nat.lt_of_lt_of_le (by first | assumption | simp) hb.size))
        go_ret
        exact ⟨by rw [hv.out]; rfl, hB⟩
      · have hv : Hid (gHead K M B q = 3 + gBody K M B) := Lib.hid (by unfold gHead; rw [hR, if_pos (by simp; omega), gBody_eq hR, show q % 2 = 1 by omega]; omega)
        have t2 : (q % 2 == 0) = false := by simpa using h2
        clear h2
        go_enter Try.func31, Try.ntmps31
        go_wp2_with (first | (go_at_call 15; refine (rright_any _ _ _ _).mono ?_; rintro e w1 ⟨rfl, hb⟩; obtain ⟨hc, hf⟩ := bcell hb; have hB := below_c (w0 := w) (by assumption) hb; have hlt : w.heap.size < w1.heap.size := Nat.lt_of_lt_of_le (by first | assumption | simp) hb.size) | (go_at_call 23; refine (rbody_any _ _ _ _).mono ?_; rintro e w1 ⟨rfl, hb⟩; obtain ⟨hc, hf⟩ := bcell hb; have hB := below_c (w0 := w) (by assumption) hb; have hlt : w.heap.size < w1.heap.size := Nat.lt_of_lt_of_le (by first | assumption | simp) hb.size))
        go_ret
        exact ⟨by rw [hv.out]; rfl, hB⟩
set_option maxRecDepth 100000 in
set_option maxHeartbeats 1000000 in
theorem block_any (K M B : Int) (s : Int) (i : Int) (w : World) :
    Calls Try.prog 12 #[.agg #[.int .i64 K, .int .i64 M, .int .i64 B], .int .i64 s, .int .i64 i] w fun e w' => e = .returned (.tuple #[.int .i64 (gBlock K M B s i), .bool (gIs K M B s i)]) ∧ Below w.heap.size w w' := by
  have hB0 : Below w.heap.size w (w.alloc (.cells #[.int .i64 K, .int .i64 M, .int .i64 B] 23)) := (Below.refl _ _).alloc (Nat.le_refl _) _
  cases h1 : gShard K M B s i
  · have hv := Lib.hid (gBlock_no (K := K) (M := M) (B := B) (s := s) (i := i) (by simp [gIs, h1]))
    go_enter Try.func12, Try.ntmps12
    go_wp2_with (first | (go_at_call 34; refine (shard_any _ _ _ _ _ _).mono ?_; rintro e w1 ⟨rfl, hb⟩; obtain ⟨hc, hf⟩ := bcell hb; have hB := below_c (w0 := w) (by assumption) hb; have hlt : w.heap.size < w1.heap.size := Nat.lt_of_lt_of_le (by first | assumption | simp) hb.size))
    go_ret2
    exact ⟨by rw [hv.out.1, hv.out.2]; rfl, hB⟩
  · have hsh := Lib.hid h1
    obtain ⟨x1, x2, x3⟩ := gShard_true h1
    obtain ⟨x4, x5⟩ := slots_pos x1
    have x6 := gHas_true x1
    have x7 := stripes_rng K M B
    obtain ⟨k1, k2, m1, m2, b1, b2⟩ := gR_true x4
    rw [x5] at x3
    have X1 := Lib.hid x1
    by_cases h2 : K ≤ i
    · have hv := Lib.hid (gBlock_no (K := K) (M := M) (B := B) (s := s) (i := i) (by simp [gIs]; omega))
      go_enter Try.func12, Try.ntmps12
      go_wp2_with (first | (go_at_call 34; refine (shard_any _ _ _ _ _ _).mono ?_; rintro e w1 ⟨rfl, hb⟩; obtain ⟨hc, hf⟩ := bcell hb; have hB := below_c (w0 := w) (by assumption) hb; have hlt : w.heap.size < w1.heap.size := Nat.lt_of_lt_of_le (by first | assumption | simp) hb.size))
      go_ret2
      exact ⟨by rw [hv.out.1, hv.out.2]; rfl, hB⟩
    · have t : decide (K ≤ i) = false := by simpa using h2
      have y0 : 0 ≤ s * K ∧ s * K ≤ 800 := by
        rcases (by omega : K = 1 ∨ K = 2 ∨ K = 3 ∨ K = 4) with rfl | rfl | rfl | rfl <;> omega
      by_cases h3 : B ≤ s * K + i
      · have hv := Lib.hid (gBlock_no (K := K) (M := M) (B := B) (s := s) (i := i) (by simp [gIs]; omega))
        go_enter Try.func12, Try.ntmps12
        go_wp2_with (first | (go_at_call 34; refine (shard_any _ _ _ _ _ _).mono ?_; rintro e w1 ⟨rfl, hb⟩; obtain ⟨hc, hf⟩ := bcell hb; have hB := below_c (w0 := w) (by assumption) hb; have hlt : w.heap.size < w1.heap.size := Nat.lt_of_lt_of_le (by first | assumption | simp) hb.size))
        go_ret2
        exact ⟨by rw [hv.out.1, hv.out.2]; rfl, hB⟩
      · have hv := Lib.hid (gBlock_yes (K := K) (M := M) (B := B) (s := s) (i := i) (by simp [gIs, h1]; omega))
        go_enter Try.func12, Try.ntmps12
        go_wp2_with (first | (go_at_call 34; refine (shard_any _ _ _ _ _ _).mono ?_; rintro e w1 ⟨rfl, hb⟩; obtain ⟨hc, hf⟩ := bcell hb; have hB := below_c (w0 := w) (by assumption) hb; have hlt : w.heap.size < w1.heap.size := Nat.lt_of_lt_of_le (by first | assumption | simp) hb.size))
        go_ret2
        exact ⟨by rw [hv.out.1, hv.out.2]; rfl, hB⟩
end Go.Proofs.Ytfepfmibcjlkiaa
