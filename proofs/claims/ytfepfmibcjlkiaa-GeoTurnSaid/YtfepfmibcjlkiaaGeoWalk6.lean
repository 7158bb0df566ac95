/- The calls of the document's own geo, walked: whole places. -/
import Derived.Test.YtfepfmibcjlkiaaGeoWalk5
namespace Go.Proofs.Ytfepfmibcjlkiaa
open Go.RowKit
set_option linter.unusedVariables false
set_option linter.unusedSimpArgs false
attribute [local go_sem ↓] Go.wp_at_zero Go.wp_at_succ
set_option maxRecDepth 100000 in
set_option maxHeartbeats 600000 in
theorem rof_any (K M B b : Int) (w : World) :
    Calls Try.prog 11 #[.agg #[.int .i64 K, .int .i64 M, .int .i64 B], .int .i64 b] w fun e w' => e = .returned (.tuple #[.agg #[.int .i64 (oSt K M B b), .int .i64 (oIx K M B b), .int .i64 (oSl K M B b), .int .i64 (oSe K M B b)], .int .i64 (gErr K M B b)]) ∧ Below w.heap.size w w' := by
  have hx0 := Boxes.start w K M B
  have hB0 : Below w.heap.size w ((w.alloc (.cells #[.int .i64 K, .int .i64 M, .int .i64 B] 23)).alloc (.cells #[.int .i64 0, .int .i64 0, .int .i64 0, .int .i64 0] 26)) := ((Below.refl _ _).alloc (Nat.le_refl _) _).alloc (by simp) _
  cases hR : gR K M B
  · have hn : gOk K M B b = false := by simp [gOk, hR]
    have v0 : oSt K M B b = 0 := by unfold oSt; rw [hn]; rfl
    have v1 : oIx K M B b = 0 := by unfold oIx; rw [hn]; rfl
    have v2 : oSl K M B b = 0 := by unfold oSl; rw [hn]; rfl
    have v3 : oSe K M B b = 0 := by unfold oSe; rw [hn]; rfl
    have v4 : gErr K M B b = 70 := by unfold gErr; rw [hR]; rfl
    rw [v0, v1, v2, v3, v4]
    have hR' := Lib.hid hR
    clear hn v0 v1 v2 v3 v4
    go_enter Try.func11, Try.ntmps11
    go_wp2_with (first | (go_at_call 15; refine (rright_any _ _ _ _).mono ?_; rintro e w1 ⟨rfl, hb⟩; rw [hR]; have hx1 := hx0.below hb; have hB1 := below_c (w0 := w) hB0 hb; clear hx0 hB0; have hx := hx1; obtain ⟨e0, e1, e2, e3, e4, e5, e6, e7, e8⟩ := hx))
    refine bodyPost_ret (v := .tuple #[.agg #[.int .i64 0, .int .i64 0, .int .i64 0, .int .i64 0], .int .i64 70]) ?_ rfl ⟨rfl, ?_⟩
    · simp only [results, Try.results11]
      simp [go_sem, e3, e4, e5, e6, e8]
    · exact (((hB1.setCell (by simp) _).setCell (by simp) _).setCell (by simp) _).setCell (by simp) _
  · by_cases h0 : b < 0
    · have t0 : decide (b < 0) = true := by simpa using h0
      have hn : gOk K M B b = false := by simp [gOk, hR]; omega
      have v0 : oSt K M B b = 0 := by unfold oSt; rw [hn]; rfl
      have v1 : oIx K M B b = 0 := by unfold oIx; rw [hn]; rfl
      have v2 : oSl K M B b = 0 := by unfold oSl; rw [hn]; rfl
      have v3 : oSe K M B b = 0 := by unfold oSe; rw [hn]; rfl
      have v4 : gErr K M B b = 71 := by unfold gErr; rw [hR, if_pos rfl, if_neg (by omega)]
      rw [v0, v1, v2, v3, v4]
      clear hn v0 v1 v2 v3 v4
      go_enter Try.func11, Try.ntmps11
      go_wp2_with (first | (go_at_call 15; refine (rright_any _ _ _ _).mono ?_; rintro e w1 ⟨rfl, hb⟩; rw [hR]; have hx1 := hx0.below hb; have hB1 := below_c (w0 := w) hB0 hb; clear hx0 hB0; have hx := hx1; obtain ⟨e0, e1, e2, e3, e4, e5, e6, e7, e8⟩ := hx))
      refine bodyPost_ret (v := .tuple #[.agg #[.int .i64 0, .int .i64 0, .int .i64 0, .int .i64 0], .int .i64 71]) ?_ rfl ⟨rfl, ?_⟩
      · simp only [results, Try.results11]
        simp [go_sem, e3, e4, e5, e6, e8]
      · exact (((hB1.setCell (by simp) _).setCell (by simp) _).setCell (by simp) _).setCell (by simp) _
    · have t0 : decide (b < 0) = false := by simpa using h0
      by_cases h1 : B ≤ b
      · have t1 : decide (B ≤ b) = true := by simpa using h1
        have hn : gOk K M B b = false := by simp [gOk, hR]; omega
        have v0 : oSt K M B b = 0 := by unfold oSt; rw [hn]; rfl
        have v1 : oIx K M B b = 0 := by unfold oIx; rw [hn]; rfl
        have v2 : oSl K M B b = 0 := by unfold oSl; rw [hn]; rfl
        have v3 : oSe K M B b = 0 := by unfold oSe; rw [hn]; rfl
        have v4 : gErr K M B b = 71 := by unfold gErr; rw [hR, if_pos rfl, if_neg (by omega)]
        rw [v0, v1, v2, v3, v4]
        clear hn v0 v1 v2 v3 v4
        go_enter Try.func11, Try.ntmps11
        go_wp2_with (first | (go_at_call 15; refine (rright_any _ _ _ _).mono ?_; rintro e w1 ⟨rfl, hb⟩; rw [hR]; have hx1 := hx0.below hb; have hB1 := below_c (w0 := w) hB0 hb; clear hx0 hB0; have hx := hx1; obtain ⟨e0, e1, e2, e3, e4, e5, e6, e7, e8⟩ := hx))
        refine bodyPost_ret (v := .tuple #[.agg #[.int .i64 0, .int .i64 0, .int .i64 0, .int .i64 0], .int .i64 71]) ?_ rfl ⟨rfl, ?_⟩
        · simp only [results, Try.results11]
          simp [go_sem, e3, e4, e5, e6, e8]
        · exact (((hB1.setCell (by simp) _).setCell (by simp) _).setCell (by simp) _).setCell (by simp) _
      · have t1 : decide (B ≤ b) = false := by simpa using h1
        obtain ⟨k1, k2, m1, m2, b1, b2⟩ := gR_true hR
        have hn : Hid (gOk K M B b = true) := Lib.hid (by simp [gOk, hR]; omega)
        go_enter Try.func11, Try.ntmps11
        go_wp2_with (first | (go_at_call 15; refine (rright_any _ _ _ _).mono ?_; rintro e w1 ⟨rfl, hb⟩; have hx1 := hx0.below hb; have hB1 := below_c (w0 := w) hB0 hb; clear hx0 hB0; have hx := hx1; obtain ⟨e0, e1, e2, e3, e4, e5, e6, e7, e8⟩ := hx))
        have hx2 := hx1
        have hB2 := hB1
        clear e0 e1 e2 e3 e4 e5 e6 e7 e8 hx1 hB1
        have hxd := hx2.drew
        have hBd := hB2.drew
        obtain ⟨e0, e1, e2, e3, e4, e5, e6, e7, e8⟩ := hx2
        go_wp2
        go_region_held3 (fun w' => w'.cell? ⟨w.heap.size, 0, none⟩ = some (.int .i64 K) ∧ w'.cell? ⟨w.heap.size, 1, none⟩ = some (.int .i64 M) ∧ w'.cell? ⟨w.heap.size, 2, none⟩ = some (.int .i64 B)) (first | exact ⟨e0, e1, e2⟩ | (simp [e0, e1, e2]; done) | go_keep)
          (first
          | (go_at_call 25; refine (rslot_any _ _ _ _ _ _).mono ?_; rintro e w3 ⟨rfl, hb⟩; have hx3 := hxd.below hb; have hB3 := below_c (w0 := w) hBd hb; have hx := hx3; obtain ⟨e0, e1, e2, e3, e4, e5, e6, e7, e8⟩ := hx)
          | (go_at_call 29; refine (rsector_any _ _ _ _ _).mono ?_; rintro e w4 ⟨rfl, hb⟩; have hx4 := hx3.below hb; have hB4 := below_c (w0 := w) hB3 hb; have hx := hx4; obtain ⟨e0, e1, e2, e3, e4, e5, e6, e7, e8⟩ := hx))
        all_goals go_wp2
        have v0 : oSt K M B b = b / K := by unfold oSt; rw [hn.out]; rfl
        have v1 : oIx K M B b = b % K := by unfold oIx; rw [hn.out]; rfl
        have v2 : oSl K M B b = gSlot K M B (b / K) (b % K) := by unfold oSl; rw [hn.out]; rfl
        have v3 : oSe K M B b = gSector K M B (b / K) := by unfold oSe; rw [hn.out]; rfl
        have v4 : gErr K M B b = 0 := by unfold gErr; rw [hR, if_pos rfl, if_pos ⟨h0, h1⟩]
        rw [v0, v1, v2, v3, v4]
        have hs := hx4.lt
        refine bodyPost_ret (v := .tuple #[.agg #[.int .i64 (b / K), .int .i64 (b % K), .int .i64 (gSlot K M B (b / K) (b % K)), .int .i64 (gSector K M B (b / K))], .int .i64 0]) ?_ rfl ⟨rfl, ?_⟩
        · simp only [results, Try.results11]
          simp [go_sem, e3, e4, e5, e6, hs]
        · exact (((hB4.setCell (by simp) _).setCell (by simp) _).setCell (by simp) _).setCell (by simp) _
end Go.Proofs.Ytfepfmibcjlkiaa
