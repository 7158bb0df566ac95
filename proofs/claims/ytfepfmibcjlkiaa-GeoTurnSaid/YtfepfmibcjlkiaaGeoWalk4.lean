/- The calls of geo, walked: the document's search, whole places, right geometries. -/
import Derived.Test.YtfepfmibcjlkiaaGeoWalk3
import Derived.Deep.RegionWith
namespace Go.Proofs.Ytfepfmibcjlkiaa
open Go.RowKit
set_option linter.unusedVariables false
set_option linter.unusedSimpArgs false

theorem turn_spec {n s t : Int} (hn : n = 2 ∨ n = 3 ∨ n = 4 ∨ n = 5 ∨ n = 6 ∨ n = 7) (h0 : 0 ≤ t) (h1 : t < n) :
    0 ≤ (t + n - s % n) % n ∧ (t + n - s % n) % n < n ∧ ((t + n - s % n) % n + s) % n = t := by
  rcases hn with rfl | rfl | rfl | rfl | rfl | rfl <;> omega
theorem turn_once {n s t k : Int} (hn : n = 2 ∨ n = 3 ∨ n = 4 ∨ n = 5 ∨ n = 6 ∨ n = 7) (h0 : 0 ≤ k) (h1 : k < n) (h : (k + s) % n = t) : (t + n - s % n) % n = k := by
  rcases hn with rfl | rfl | rfl | rfl | rfl | rfl <;> omega
theorem gSlot_eq {K M B s i : Int} (h : gHas K M B s = true) (h0 : 0 ≤ i) (h1 : i < K + M) : gSlot K M B s i = (i + s) % (K + M) := by
  have hs := (slots_pos h).2
  unfold gSlot
  rw [if_pos (by simp [gShard, h]; omega)]
theorem gIndex_yes {K M B s t : Int} (h : gHas K M B s = true) (h0 : 0 ≤ t) (h1 : t < K + M) : gIndex K M B s t = (t + (K + M) - s % (K + M)) % (K + M) := by
  have hs := (slots_pos h).2
  unfold gIndex
  rw [if_pos (by simp [gShard, h]; omega)]
theorem gIndex_no {K M B s t : Int} (h : gHas K M B s = true) (h0 : ¬ (0 ≤ t ∧ t < K + M)) : gIndex K M B s t = -1 := by
  have hs := (slots_pos h).2
  unfold gIndex
  rw [if_neg (by simp [gShard, h]; omega)]
set_option maxRecDepth 100000 in
set_option maxHeartbeats 1000000 in
theorem rindex_any (K M B : Int) (s : Int) (t : Int) (w : World) :
    Calls Try.prog 27 #[.agg #[.int .i64 K, .int .i64 M, .int .i64 B], .int .i64 s, .int .i64 t] w fun e w' => e = .returned (.int .i64 (gIndex K M B s t)) ∧ Below w.heap.size w w' := by
  have hB0 : Below w.heap.size w (w.alloc (.cells #[.int .i64 K, .int .i64 M, .int .i64 B] 23)) := (Below.refl _ _).alloc (Nat.le_refl _) _
  cases h1 : gHas K M B s
  · have hv : Hid (gIndex K M B s t = -1) := Lib.hid (by unfold gIndex gShard; rw [h1]; rfl)
    go_enter Try.func27, Try.ntmps27
    go_wp2_with (first | (go_at_call 37; refine (rhas_any _ _ _ _ _).mono ?_; rintro e w1 ⟨rfl, hb⟩; obtain ⟨hc, hf⟩ := bcell hb; have hB := below_c (w0 := w) (by assumption) hb; have hlt : w.heap.size < w1.heap.size := Nat.lt_of_lt_of_le (by first | assumption | simp) hb.size))
    go_ret
    exact ⟨by rw [hv.out]; rfl, hB⟩
  · obtain ⟨x4, x5⟩ := slots_pos h1
    obtain ⟨k1, k2, m1, m2, b1, b2⟩ := gR_true x4
    have HS := Lib.hid h1
    have X5 := Lib.hid x5
    clear x4
    go_enter Try.func27, Try.ntmps27
    go_wp2_with (first | (go_at_call 37; refine (rhas_any _ _ _ _ _).mono ?_; rintro e w1 ⟨rfl, hb⟩; obtain ⟨hc, hf⟩ := bcell hb; have hB := below_c (w0 := w) (by assumption) hb; have hlt : w.heap.size < w1.heap.size := Nat.lt_of_lt_of_le (by first | assumption | simp) hb.size))
    go_loopw [8] (fun i wr => ∃ k : Int, 0 ≤ k ∧ k ≤ K + M ∧ i = .int .i64 k ∧ Hid (∀ j, 0 ≤ j → j < k → (j + s) % (K + M) ≠ t) ∧ Below w.heap.size w wr ∧ w.heap.size < wr.heap.size ∧ wr.cell? ⟨w.heap.size, 0, none⟩ = some (.int .i64 K) ∧ wr.cell? ⟨w.heap.size, 1, none⟩ = some (.int .i64 M) ∧ wr.cell? ⟨w.heap.size, 2, none⟩ = some (.int .i64 B)) (fun i _ => (K + M - intOf i).toNat)
    case atStart => exact ⟨0, by omega, by omega, rfl, Lib.hid (fun j h0 h1 => by omega), hB, hlt, by rw [hc _ _ (by simp)]; simp, by rw [hc _ _ (by simp)]; simp, by rw [hc _ _ (by simp)]; simp⟩
    case round =>
      clear hc hf hB hlt hb hB0
      obtain ⟨k, hk0, hk, rfl, hno, hB, hlt, c0, c1, c2⟩ := hrel
      by_cases hk2 : k < K + M
      · have hsl := gSlot_eq (B := B) HS.out hk0 hk2
        by_cases he : (k + s) % (K + M) = t
        · have tt : (gSlot K M B s k == t) = true := by rw [hsl, he]; simp
          have hv : Hid (gIndex K M B s t = k) := Lib.hid (by
            have h0 : 0 ≤ t := by rw [← he]; exact Int.emod_nonneg _ (by omega)
            have h1 : t < K + M := by rw [← he]; exact Int.emod_lt_of_pos _ (by omega)
            rw [gIndex_yes HS.out h0 h1, turn_once (by omega) hk0 hk2 he])
          clear hsl he
          go_wp2_with (first | (go_at_call 17; refine (rslots_any _ _ _ _).mono ?_; rintro e w1 ⟨rfl, hb⟩; obtain ⟨hc, hf⟩ := bcell hb; have hB := below_c (w0 := w) (by assumption) hb; have hlt : w.heap.size < w1.heap.size := Nat.lt_of_lt_of_le (by first | assumption | simp) hb.size) | (go_at_call 25; refine (rslot_any _ _ _ _ _ _).mono ?_; rintro e w1 ⟨rfl, hb⟩; obtain ⟨hc, hf⟩ := bcell hb; have hB := below_c (w0 := w) (by assumption) hb; have hlt : w.heap.size < w1.heap.size := Nat.lt_of_lt_of_le (by first | assumption | simp) hb.size))
          go_ret
          exact ⟨by rw [hv.out]; rfl, hB⟩
        · have tt : (gSlot K M B s k == t) = false := by rw [hsl, beq_eq_false_iff_ne]; exact he
          have hno2 : Hid (∀ j, 0 ≤ j → j < k + 1 → (j + s) % (K + M) ≠ t) := Lib.hid (fun j h0 h1 => by
            by_cases e : j = k
            · rw [e]; exact he
            · exact hno.out j h0 (by omega))
          clear hsl he
          go_wp2_with (first | (go_at_call 17; refine (rslots_any _ _ _ _).mono ?_; rintro e w1 ⟨rfl, hb⟩; obtain ⟨hc, hf⟩ := bcell hb; have hB := below_c (w0 := w) (by assumption) hb; have hlt : w.heap.size < w1.heap.size := Nat.lt_of_lt_of_le (by first | assumption | simp) hb.size) | (go_at_call 25; refine (rslot_any _ _ _ _ _ _).mono ?_; rintro e w1 ⟨rfl, hb⟩; obtain ⟨hc, hf⟩ := bcell hb; have hB := below_c (w0 := w) (by assumption) hb; have hlt : w.heap.size < w1.heap.size := Nat.lt_of_lt_of_le (by first | assumption | simp) hb.size))
          go_roundw
          case rel => exact ⟨k + 1, by omega, by omega, rfl, hno2, hB, hlt, by simp [*], by simp [*], by simp [*]⟩
          case measure => simp [intOf]; omega
      · have hv : Hid (gIndex K M B s t = -1) := Lib.hid (gIndex_no HS.out (fun ⟨h0, h1⟩ => by
          have q := turn_spec (n := K + M) (s := s) (t := t) (by omega) h0 h1
          exact hno.out _ q.1 (by omega) q.2.2))
        go_wp2_with (first | (go_at_call 17; refine (rslots_any _ _ _ _).mono ?_; rintro e w1 ⟨rfl, hb⟩; obtain ⟨hc, hf⟩ := bcell hb; have hB := below_c (w0 := w) (by assumption) hb; have hlt : w.heap.size < w1.heap.size := Nat.lt_of_lt_of_le (by first | assumption | simp) hb.size) | (go_at_call 25; refine (rslot_any _ _ _ _ _ _).mono ?_; rintro e w1 ⟨rfl, hb⟩; obtain ⟨hc, hf⟩ := bcell hb; have hB := below_c (w0 := w) (by assumption) hb; have hlt : w.heap.size < w1.heap.size := Nat.lt_of_lt_of_le (by first | assumption | simp) hb.size))
        go_ret
        exact ⟨by rw [hv.out]; rfl, hB⟩
theorem gSlot_neg {K M B s i : Int} (h : gShard K M B s i = false) : gSlot K M B s i = -1 := by unfold gSlot; rw [h]; rfl
theorem gSlot_pos {K M B s i : Int} (h : gShard K M B s i = true) : 0 ≤ gSlot K M B s i ∧ gSlot K M B s i < K + M := by
  obtain ⟨x1, x2, x3⟩ := gShard_true h
  obtain ⟨x4, x5⟩ := slots_pos x1
  obtain ⟨k1, k2, m1, m2, b1, b2⟩ := gR_true x4
  rw [gSlot_eq x1 x2 (by omega)]
  exact ⟨Int.emod_nonneg _ (by omega), Int.emod_lt_of_pos _ (by omega)⟩
set_option maxRecDepth 100000 in
set_option maxHeartbeats 1000000 in
theorem rblock_any (K M B : Int) (s : Int) (i : Int) (w : World) :
    Calls Try.prog 13 #[.agg #[.int .i64 K, .int .i64 M, .int .i64 B], .int .i64 s, .int .i64 i] w fun e w' => e = .returned (.tuple #[.int .i64 (gBlock K M B s i), .bool (gIs K M B s i)]) ∧ Below w.heap.size w w' := by
  have hB0 : Below w.heap.size w (w.alloc (.cells #[.int .i64 K, .int .i64 M, .int .i64 B] 23)) := (Below.refl _ _).alloc (Nat.le_refl _) _
  cases h1 : gShard K M B s i
  · have hv := Lib.hid (gBlock_no (K := K) (M := M) (B := B) (s := s) (i := i) (by simp [gIs, h1]))
    have hn := gSlot_neg h1
    go_enter Try.func13, Try.ntmps13
    go_wp2_with (first | (go_at_call 25; refine (rslot_any _ _ _ _ _ _).mono ?_; rintro e w1 ⟨rfl, hb⟩; obtain ⟨hc, hf⟩ := bcell hb; have hB := below_c (w0 := w) (by assumption) hb; have hlt : w.heap.size < w1.heap.size := Nat.lt_of_lt_of_le (by first | assumption | simp) hb.size))
    go_ret2
    exact ⟨by rw [hv.out.1, hv.out.2]; rfl, hB⟩
  · have hp := gSlot_pos h1
    have t0 : decide (gSlot K M B s i < 0) = false := by simpa using hp.1
    obtain ⟨x1, x2, x3⟩ := gShard_true h1
    obtain ⟨x4, x5⟩ := slots_pos x1
    have x6 := gHas_true x1
    have x7 := stripes_rng K M B
    obtain ⟨k1, k2, m1, m2, b1, b2⟩ := gR_true x4
    rw [x5] at x3
    have y0 : 0 ≤ s * K ∧ s * K ≤ 800 := by
      rcases (by omega : K = 1 ∨ K = 2 ∨ K = 3 ∨ K = 4) with rfl | rfl | rfl | rfl <;> omega
    by_cases h2 : K ≤ i
    · have hv := Lib.hid (gBlock_no (K := K) (M := M) (B := B) (s := s) (i := i) (by simp [gIs]; omega))
      go_enter Try.func13, Try.ntmps13
      go_wp2_with (first | (go_at_call 25; refine (rslot_any _ _ _ _ _ _).mono ?_; rintro e w1 ⟨rfl, hb⟩; obtain ⟨hc, hf⟩ := bcell hb; have hB := below_c (w0 := w) (by assumption) hb; have hlt : w.heap.size < w1.heap.size := Nat.lt_of_lt_of_le (by first | assumption | simp) hb.size))
      go_ret2
      exact ⟨by rw [hv.out.1, hv.out.2]; rfl, hB⟩
    · have t : decide (K ≤ i) = false := by simpa using h2
      by_cases h3 : B ≤ s * K + i
      · have hv := Lib.hid (gBlock_no (K := K) (M := M) (B := B) (s := s) (i := i) (by simp [gIs]; omega))
        go_enter Try.func13, Try.ntmps13
        go_wp2_with (first | (go_at_call 25; refine (rslot_any _ _ _ _ _ _).mono ?_; rintro e w1 ⟨rfl, hb⟩; obtain ⟨hc, hf⟩ := bcell hb; have hB := below_c (w0 := w) (by assumption) hb; have hlt : w.heap.size < w1.heap.size := Nat.lt_of_lt_of_le (by first | assumption | simp) hb.size))
        go_ret2
        exact ⟨by rw [hv.out.1, hv.out.2]; rfl, hB⟩
      · have hv := Lib.hid (gBlock_yes (K := K) (M := M) (B := B) (s := s) (i := i) (by simp [gIs, h1]; omega))
        have t2 : decide (B ≤ s * K + i) = false := by simpa using h3
        go_enter Try.func13, Try.ntmps13
        go_wp2_with (first | (go_at_call 25; refine (rslot_any _ _ _ _ _ _).mono ?_; rintro e w1 ⟨rfl, hb⟩; obtain ⟨hc, hf⟩ := bcell hb; have hB := below_c (w0 := w) (by assumption) hb; have hlt : w.heap.size < w1.heap.size := Nat.lt_of_lt_of_le (by first | assumption | simp) hb.size))
        go_ret2
        exact ⟨by rw [hv.out.1, hv.out.2]; rfl, hB⟩
end Go.Proofs.Ytfepfmibcjlkiaa
