/- What the chapter's numbers have to do with one another. -/
import Derived.Test.YtfepfmibcjlkiaaGeoAwake
namespace Go.Proofs.Ytfepfmibcjlkiaa
set_option linter.unusedVariables false
set_option linter.unusedSimpArgs false

theorem k_cases {k m B : Int} (hR : gR k m B = true) : (k = 1 ∨ k = 2 ∨ k = 3 ∨ k = 4) ∧ (m = 1 ∨ m = 2 ∨ m = 3) ∧ 8 ≤ B ∧ B ≤ 200 := by
  obtain ⟨k1, k2, m1, m2, b1, b2⟩ := gR_true hR
  exact ⟨by omega, by omega, b1, b2⟩
theorem stripes_eq {k m B : Int} (hR : gR k m B = true) : gStripes k m B = (B + k - 1) / k := by unfold gStripes; rw [hR, if_pos rfl]
theorem slots_eq {k m B : Int} (hR : gR k m B = true) : gSlots k m B = k + m := by unfold gSlots; rw [hR, if_pos rfl]
theorem body_eq {k m B : Int} (hR : gR k m B = true) : gBody k m B = 16 * k := by unfold gBody; rw [hR, if_pos rfl]
theorem sectors_eq {k m B : Int} (hR : gR k m B = true) : gSectors k m B = 2 + 2 * (1 + 16 * k) + (B + k - 1) / k := by unfold gSectors; rw [hR, if_pos rfl]
theorem head_eq {k m B q : Int} (hR : gR k m B = true) (hq : 0 ≤ q) : gHead k m B q = 2 + q % 2 * (1 + 16 * k) := by unfold gHead; rw [hR, decide_eq_true hq]; rfl
theorem has_eq {k m B s : Int} (h0 : 0 ≤ s) (h1 : s < gStripes k m B) : gHas k m B s = true := by simp [gHas, h0, h1]
theorem shard_eq {k m B s i : Int} (h0 : 0 ≤ s) (h1 : s < gStripes k m B) (h2 : 0 ≤ i) (h3 : i < gSlots k m B) : gShard k m B s i = true := by simp [gShard, has_eq h0 h1, h2, h3]
theorem slot_eq {k m B s i : Int} (h0 : 0 ≤ s) (h1 : s < gStripes k m B) (h2 : 0 ≤ i) (h3 : i < gSlots k m B) : gSlot k m B s i = (i + s) % (k + m) := by unfold gSlot; rw [shard_eq h0 h1 h2 h3]; rfl
theorem index_eq {k m B s i : Int} (h0 : 0 ≤ s) (h1 : s < gStripes k m B) (h2 : 0 ≤ i) (h3 : i < gSlots k m B) : gIndex k m B s i = (i + (k + m) - s % (k + m)) % (k + m) := by unfold gIndex; rw [shard_eq h0 h1 h2 h3]; rfl
theorem sector_eq {k m B s : Int} (hR : gR k m B = true) (h0 : 0 ≤ s) (h1 : s < gStripes k m B) : gSector k m B s = 4 + 32 * k + s := by
  unfold gSector; rw [has_eq h0 h1, if_pos rfl]; unfold gShards; rw [body_eq hR]; omega
theorem div_lt {k m B A : Int} (hR : gR k m B = true) (h0 : 0 ≤ A) (h1 : A < B) : 0 ≤ A / k ∧ A / k < (B + k - 1) / k ∧ 0 ≤ A % k ∧ A % k < k ∧ A / k * k + A % k = A := by
  obtain ⟨hk, hm, hb⟩ := k_cases hR
  rcases hk with rfl | rfl | rfl | rfl <;> omega
/-- Where a block stands. -/
structure Stands (k m B A st ix sl se : Int) : Prop where
  ker : gErr k m B A = 0
  kst : oSt k m B A = st
  kix : oIx k m B A = ix
  ksl : oSl k m B A = sl
  kse : oSe k m B A = se
  vst : st = A / k
  vix : ix = A % k
  vsl : sl = (A % k + A / k) % (k + m)
  vse : se = 4 + 32 * k + A / k
  kis : gIs k m B st ix = true
  kbl : gBlock k m B st ix = A
theorem stands {k m B A : Int} (hR : gR k m B = true) (h0 : 0 ≤ A) (h1 : A < B) : ∃ st ix sl se, Stands k m B A st ix sl se := by
  obtain ⟨d1, d2, d3, d4, d5⟩ := div_lt hR h0 h1
  obtain ⟨k1, k2, m1, m2, b1, b2⟩ := gR_true hR
  have hok : gOk k m B A = true := by simp [gOk, hR, h0, h1]
  have e1 := stripes_eq hR
  have e2 := slots_eq hR
  have his : gIs k m B (A / k) (A % k) = true := by
    unfold gIs; rw [shard_eq d1 (by omega) d3 (by omega), decide_eq_true d4, decide_eq_true (by omega)]; rfl
  refine ⟨A / k, A % k, (A % k + A / k) % (k + m), 4 + 32 * k + A / k, ?_, ?_, ?_, ?_, ?_, rfl, rfl, rfl, rfl, his, ?_⟩
  · unfold gErr; rw [hR, if_pos rfl, if_pos ⟨h0, h1⟩]
  · unfold oSt; rw [hok]; rfl
  · unfold oIx; rw [hok]; rfl
  · unfold oSl; rw [hok, if_pos rfl]; exact slot_eq d1 (by omega) d3 (by omega)
  · unfold oSe; rw [hok, if_pos rfl]; exact sector_eq hR d1 (by omega)
  · unfold gBlock; rw [his, if_pos rfl]; exact d5
theorem same_iff {k m B A C a0 a1 a2 a3 c0 c1 c2 c3 : Int} (hR : gR k m B = true) (h0 : 0 ≤ A) (h1 : A < B) (h2 : 0 ≤ C) (h3 : C < B) (hA : Stands k m B A a0 a1 a2 a3) (hC : Stands k m B C c0 c1 c2 c3) :
    ((a2 = c2 ∧ a3 = c3) ↔ A = C) ∧ (a0 = c0 → (a3 = c3 ∧ (a2 = c2 ↔ A = C) ∧ a1 - c1 = A - C)) ∧ (a0 ≠ c0 → (a3 ≠ c3 ∧ (A < C ↔ a0 < c0))) := by
  have v1 := hA.vst; have v2 := hA.vix; have v3 := hA.vsl; have v4 := hA.vse
  have u1 := hC.vst; have u2 := hC.vix; have u3 := hC.vsl; have u4 := hC.vse
  clear hA hC
  obtain ⟨hk, hm, hb⟩ := k_cases hR
  clear hR
  rcases hk with rfl | rfl | rfl | rfl <;> rcases hm with rfl | rfl | rfl <;> omega
end Go.Proofs.Ytfepfmibcjlkiaa
