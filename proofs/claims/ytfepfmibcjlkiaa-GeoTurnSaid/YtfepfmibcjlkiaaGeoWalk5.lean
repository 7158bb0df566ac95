/- The calls of geo, walked: whole places. -/
import Derived.Test.YtfepfmibcjlkiaaGeoWalk4
import Derived.Deep.DrawnRows
import Derived.Deep.RegionWith
namespace Go.Proofs.Ytfepfmibcjlkiaa
open Go.RowKit
set_option linter.unusedVariables false
set_option linter.unusedSimpArgs false
attribute [local go_sem ↓] Go.wp_at_zero Go.wp_at_succ

def gOk (K M B b : Int) : Bool := gR K M B && decide (0 ≤ b) && decide (b < B)
def gErr (K M B b : Int) : Int := if gR K M B then (if 0 ≤ b ∧ b < B then 0 else 71) else 70
def oSt (K M B b : Int) : Int := if gOk K M B b then b / K else 0
def oIx (K M B b : Int) : Int := if gOk K M B b then b % K else 0
def oSl (K M B b : Int) : Int := if gOk K M B b then gSlot K M B (b / K) (b % K) else 0
def oSe (K M B b : Int) : Int := if gOk K M B b then gSector K M B (b / K) else 0

/-- The box of a geometry, and the box of a result that is still blank. -/
structure Boxes (w : World) (x : Nat) (K M B : Int) : Prop where
  k : w.cell? ⟨x, 0, none⟩ = some (.int .i64 K)
  m : w.cell? ⟨x, 1, none⟩ = some (.int .i64 M)
  b : w.cell? ⟨x, 2, none⟩ = some (.int .i64 B)
  r0 : w.cell? ⟨x + 1, 0, none⟩ = some (.int .i64 0)
  r1 : w.cell? ⟨x + 1, 1, none⟩ = some (.int .i64 0)
  r2 : w.cell? ⟨x + 1, 2, none⟩ = some (.int .i64 0)
  r3 : w.cell? ⟨x + 1, 3, none⟩ = some (.int .i64 0)
  f : ∀ i, w.frozen? ⟨x + 1, i, none⟩ = false
  lt : x + 1 < w.heap.size
theorem Boxes.below {w w' : World} {b : Nat} {K M B : Int} (h : Boxes w b K M B) (hb : Below w.heap.size w w') : Boxes w' b K M B := by
  obtain ⟨hc, hf⟩ := bcell hb
  have := h.lt
  exact ⟨by rw [hc _ _ (by omega)]; exact h.k, by rw [hc _ _ (by omega)]; exact h.m, by rw [hc _ _ (by omega)]; exact h.b, by rw [hc _ _ (by omega)]; exact h.r0, by rw [hc _ _ (by omega)]; exact h.r1,
    by rw [hc _ _ (by omega)]; exact h.r2, by rw [hc _ _ (by omega)]; exact h.r3, fun i => by rw [hf _ _ (by omega)]; exact h.f i, Nat.lt_of_lt_of_le h.lt hb.size⟩
theorem Boxes.drewN {w : World} {b : Nat} {K M B : Int} (h : Boxes w b K M B) (n : Nat) : Boxes (w.drewN n) b K M B := ⟨h.k, h.m, h.b, h.r0, h.r1, h.r2, h.r3, h.f, h.lt⟩
theorem Boxes.drew {w : World} {b : Nat} {K M B : Int} (h : Boxes w b K M B) : Boxes w.drew b K M B := ⟨h.k, h.m, h.b, h.r0, h.r1, h.r2, h.r3, h.f, h.lt⟩
theorem Boxes.start (w : World) (K M B : Int) : Boxes ((w.alloc (.cells #[.int .i64 K, .int .i64 M, .int .i64 B] 23)).alloc (.cells #[.int .i64 0, .int .i64 0, .int .i64 0, .int .i64 0] 26)) w.heap.size K M B := by
  refine ⟨?_, ?_, ?_, ?_, ?_, ?_, ?_, fun i => ?_, ?_⟩ <;> simp

set_option maxRecDepth 100000 in
set_option maxHeartbeats 600000 in
theorem of_any (K M B b : Int) (w : World) :
    Calls Try.prog 10 #[.agg #[.int .i64 K, .int .i64 M, .int .i64 B], .int .i64 b] w fun e w' => e = .returned (.tuple #[.agg #[.int .i64 (oSt K M B b), .int .i64 (oIx K M B b), .int .i64 (oSl K M B b), .int .i64 (oSe K M B b)], .int .i64 (gErr K M B b)]) ∧ Below w.heap.size w w' := by
  have hx0 := Boxes.start w K M B
  have hB0 : Below w.heap.size w ((w.alloc (.cells #[.int .i64 K, .int .i64 M, .int .i64 B] 23)).alloc (.cells #[.int .i64 0, .int .i64 0, .int .i64 0, .int .i64 0] 26)) := ((Below.refl _ _).alloc (Nat.le_refl _) _).alloc (by simp) _
  cases hR : gR K M B
  · have hn : gOk K M B b = false := by simp [gOk, hR]
    have v0 : oSt K M B b = 0 := by unfold oSt; rw [hn]; rfl
    have v1 : oIx K M B b = 0 := by unfold oIx; rw [hn]; rfl
    have v2 : oSl K M B b = 0 := by unfold oSl; rw [hn]; rfl
    have v3 : oSe K M B b = 0 := by unfold oSe; rw [hn]; rfl
    have v4 : gErr K M B b = 70 := by unfold gErr; rw [hR]; rfl
    rw [v0, v1, v2, v3, v4]
    have hR' := Lib.hid hR
    clear hn v0 v1 v2 v3 v4
    go_enter Try.func10, Try.ntmps10
    go_wp2_with (first | (go_at_call 14; refine (right_any _ _ _ _).mono ?_; rintro e w1 ⟨rfl, hb⟩; rw [hR]; have hx1 := hx0.below hb; have hB1 := below_c (w0 := w) hB0 hb; clear hx0 hB0; have hx := hx1; obtain ⟨e0, e1, e2, e3, e4, e5, e6, e7, e8⟩ := hx))
    refine bodyPost_ret (v := .tuple #[.agg #[.int .i64 0, .int .i64 0, .int .i64 0, .int .i64 0], .int .i64 70]) ?_ rfl ⟨rfl, ?_⟩
    · simp only [results, Try.results10]
      simp [go_sem, e3, e4, e5, e6, e8]
    · exact (((hB1.setCell (by simp) _).setCell (by simp) _).setCell (by simp) _).setCell (by simp) _
  · by_cases h0 : b < 0
    · have t0 : decide (b < 0) = true := by simpa using h0
      have hn : gOk K M B b = false := by simp [gOk, hR]; omega
      have v0 : oSt K M B b = 0 := by unfold oSt; rw [hn]; rfl
      have v1 : oIx K M B b = 0 := by unfold oIx; rw [hn]; rfl
      have v2 : oSl K M B b = 0 := by unfold oSl; rw [hn]; rfl
      have v3 : oSe K M B b = 0 := by unfold oSe; rw [hn]; rfl
      have v4 : gErr K M B b = 71 := by unfold gErr; rw [hR, if_pos rfl, if_neg (by omega)]
      rw [v0, v1, v2, v3, v4]
      clear hn v0 v1 v2 v3 v4
      go_enter Try.func10, Try.ntmps10
      go_wp2_with (first | (go_at_call 14; refine (right_any _ _ _ _).mono ?_; rintro e w1 ⟨rfl, hb⟩; rw [hR]; have hx1 := hx0.below hb; have hB1 := below_c (w0 := w) hB0 hb; clear hx0 hB0; have hx := hx1; obtain ⟨e0, e1, e2, e3, e4, e5, e6, e7, e8⟩ := hx))
      refine bodyPost_ret (v := .tuple #[.agg #[.int .i64 0, .int .i64 0, .int .i64 0, .int .i64 0], .int .i64 71]) ?_ rfl ⟨rfl, ?_⟩
      · simp only [results, Try.results10]
        simp [go_sem, e3, e4, e5, e6, e8]
      · exact (((hB1.setCell (by simp) _).setCell (by simp) _).setCell (by simp) _).setCell (by simp) _
    · have t0 : decide (b < 0) = false := by simpa using h0
      by_cases h1 : B ≤ b
      · have t1 : decide (B ≤ b) = true := by simpa using h1
        have hn : gOk K M B b = false := by simp [gOk, hR]; omega
        have v0 : oSt K M B b = 0 := by unfold oSt; rw [hn]; rfl
        have v1 : oIx K M B b = 0 := by unfold oIx; rw [hn]; rfl
        have v2 : oSl K M B b = 0 := by unfold oSl; rw [hn]; rfl
        have v3 : oSe K M B b = 0 := by unfold oSe; rw [hn]; rfl
        have v4 : gErr K M B b = 71 := by unfold gErr; rw [hR, if_pos rfl, if_neg (by omega)]
        rw [v0, v1, v2, v3, v4]
        clear hn v0 v1 v2 v3 v4
        go_enter Try.func10, Try.ntmps10
        go_wp2_with (first | (go_at_call 14; refine (right_any _ _ _ _).mono ?_; rintro e w1 ⟨rfl, hb⟩; rw [hR]; have hx1 := hx0.below hb; have hB1 := below_c (w0 := w) hB0 hb; clear hx0 hB0; have hx := hx1; obtain ⟨e0, e1, e2, e3, e4, e5, e6, e7, e8⟩ := hx))
        refine bodyPost_ret (v := .tuple #[.agg #[.int .i64 0, .int .i64 0, .int .i64 0, .int .i64 0], .int .i64 71]) ?_ rfl ⟨rfl, ?_⟩
        · simp only [results, Try.results10]
          simp [go_sem, e3, e4, e5, e6, e8]
        · exact (((hB1.setCell (by simp) _).setCell (by simp) _).setCell (by simp) _).setCell (by simp) _
      · have t1 : decide (B ≤ b) = false := by simpa using h1
        obtain ⟨k1, k2, m1, m2, b1, b2⟩ := gR_true hR
        have hn : Hid (gOk K M B b = true) := Lib.hid (by simp [gOk, hR]; omega)
        go_enter Try.func10, Try.ntmps10
        go_wp2_with (first | (go_at_call 14; refine (right_any _ _ _ _).mono ?_; rintro e w1 ⟨rfl, hb⟩; have hx1 := hx0.below hb; have hB1 := below_c (w0 := w) hB0 hb; clear hx0 hB0; have hx := hx1; obtain ⟨e0, e1, e2, e3, e4, e5, e6, e7, e8⟩ := hx))
        go_quiet (fail)
        have hx2 := (hx1.drewN nq)
        have hB2 : Below w.heap.size w (w1.drewN nq) := ⟨hB1.os, hB1.tape, hB1.output, hB1.size, hB1.block⟩
        clear e0 e1 e2 e3 e4 e5 e6 e7 e8 hx1 hB1
        generalize w1.drewN nq = w2 at *
        have hxd := hx2.drew
        have hBd := hB2.drew
        obtain ⟨e0, e1, e2, e3, e4, e5, e6, e7, e8⟩ := hx2
        go_wp2
        go_region_held3 (fun w' => w'.cell? ⟨w.heap.size, 0, none⟩ = some (.int .i64 K) ∧ w'.cell? ⟨w.heap.size, 1, none⟩ = some (.int .i64 M) ∧ w'.cell? ⟨w.heap.size, 2, none⟩ = some (.int .i64 B)) (first | exact ⟨e0, e1, e2⟩ | (simp [e0, e1, e2]; done) | go_keep)
          (first
          | (go_at_call 24; refine (slot_any _ _ _ _ _ _).mono ?_; rintro e w3 ⟨rfl, hb⟩; have hx3 := hxd.below hb; have hB3 := below_c (w0 := w) hBd hb; have hx := hx3; obtain ⟨e0, e1, e2, e3, e4, e5, e6, e7, e8⟩ := hx)
          | (go_at_call 28; refine (sector_any _ _ _ _ _).mono ?_; rintro e w4 ⟨rfl, hb⟩; have hx4 := hx3.below hb; have hB4 := below_c (w0 := w) hB3 hb; have hx := hx4; obtain ⟨e0, e1, e2, e3, e4, e5, e6, e7, e8⟩ := hx))
        all_goals go_wp2
        have v0 : oSt K M B b = b / K := by unfold oSt; rw [hn.out]; rfl
        have v1 : oIx K M B b = b % K := by unfold oIx; rw [hn.out]; rfl
        have v2 : oSl K M B b = gSlot K M B (b / K) (b % K) := by unfold oSl; rw [hn.out]; rfl
        have v3 : oSe K M B b = gSector K M B (b / K) := by unfold oSe; rw [hn.out]; rfl
        have v4 : gErr K M B b = 0 := by unfold gErr; rw [hR, if_pos rfl, if_pos ⟨h0, h1⟩]
        rw [v0, v1, v2, v3, v4]
        have hs := hx4.lt
        refine bodyPost_ret (v := .tuple #[.agg #[.int .i64 (b / K), .int .i64 (b % K), .int .i64 (gSlot K M B (b / K) (b % K)), .int .i64 (gSector K M B (b / K))], .int .i64 0]) ?_ rfl ⟨rfl, ?_⟩
        · simp only [results, Try.results10]
          simp [go_sem, e3, e4, e5, e6, hs]
        · exact (((hB4.setCell (by simp) _).setCell (by simp) _).setCell (by simp) _).setCell (by simp) _
end Go.Proofs.Ytfepfmibcjlkiaa
