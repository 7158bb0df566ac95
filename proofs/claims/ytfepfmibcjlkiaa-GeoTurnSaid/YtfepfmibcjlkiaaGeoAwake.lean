/- geo's laws: a raw geometry made right; the examples of the chapter. -/
import Derived.Test.YtfepfmibcjlkiaaGeoWalk6
import Derived.Deep.DrawnRows
import Derived.Deep.RegionWith
namespace Go.Proofs.Ytfepfmibcjlkiaa
open Go.RowKit
set_option linter.unusedVariables false
set_option linter.unusedSimpArgs false
attribute [local go_sem ↓] Go.wp_at_zero Go.wp_at_succ

/-- Which of n things a raw number speaks of. -/
def pk (c n : Int) : Int := (if c < 0 then -(c + 1) else c) % n
theorem pk_rng (c n : Int) (h : 1 ≤ n) : 0 ≤ pk c n ∧ pk c n < n := by
  unfold pk; exact ⟨Int.emod_nonneg _ (by omega), Int.emod_lt_of_pos _ (by omega)⟩
theorem pick_any (c n : Int) (w : World) (h1 : -9223372036854775808 ≤ c) (h2 : c ≤ 9223372036854775807) (h3 : 1 ≤ n) (h4 : n ≤ 9223372036854775807) :
    Calls Try.prog 33 #[.int .i64 c, .int .i64 n] w fun e w' => e = .returned (.int .i64 (pk c n)) ∧ w = w' := by
  by_cases hc : c < 0
  · have hp : Hid (pk c n = -((c + 1).tmod n)) := Lib.hid (by unfold pk; rw [if_pos hc, ← Int.neg_tmod, Int.tmod_eq_emod_of_nonneg (by omega)])
    go_enter Try.func33, Try.ntmps33
    go_wp2
    go_ret
    exact ⟨by rw [hp.out]; rfl, rfl⟩
  · have hp : Hid (pk c n = c % n) := Lib.hid (by unfold pk; rw [if_neg hc])
    go_enter Try.func33, Try.ntmps33
    go_wp2
    go_ret
    exact ⟨by rw [hp.out]; rfl, rfl⟩

def fK (K : Int) : Int := 1 + pk K 4
def fM (M : Int) : Int := 1 + pk M 3
def fB (B : Int) : Int := 8 + pk B 193
theorem fit_right (K M B : Int) : gR (fK K) (fM M) (fB B) = true := by
  have h1 := pk_rng K 4 (by omega); have h2 := pk_rng M 3 (by omega); have h3 := pk_rng B 193 (by omega)
  exact gR_mk (by unfold fK fM fB; omega)
/-- A geometry's box, in a world that is later than another. -/
structure Aw (w0 w : World) (x : Nat) (K M B : Int) : Prop where
  k : w.cell? ⟨x, 0, none⟩ = some (.int .i64 K)
  m : w.cell? ⟨x, 1, none⟩ = some (.int .i64 M)
  b : w.cell? ⟨x, 2, none⟩ = some (.int .i64 B)
  lt : x < w.heap.size
  bel : Below w0.heap.size w0 w
theorem Aw.step {w0 w w' : World} {x : Nat} {K M B : Int} (h : Aw w0 w x K M B) (hb : Below w.heap.size w w') : Aw w0 w' x K M B := by
  obtain ⟨hc, hf⟩ := bcell hb
  have := h.lt
  exact ⟨by rw [hc _ _ (by omega)]; exact h.k, by rw [hc _ _ (by omega)]; exact h.m, by rw [hc _ _ (by omega)]; exact h.b, Nat.lt_of_lt_of_le h.lt hb.size, below_c (w0 := w0) h.bel hb⟩
theorem Aw.alloc {w0 w : World} {x : Nat} {K M B : Int} (h : Aw w0 w x K M B) (o : Obj) : Aw w0 (w.alloc o) x K M B :=
  h.step ((Below.refl _ _).alloc (Nat.le_refl _) _)
theorem Aw.drew {w0 w : World} {x : Nat} {K M B : Int} (h : Aw w0 w x K M B) : Aw w0 w.drew x K M B := ⟨h.k, h.m, h.b, h.lt, h.bel.drew⟩
theorem Aw.start {w0 w : World} (h : Below w0.heap.size w0 w) (K M B : Int) : Aw w0 (w.alloc (.cells #[.int .i64 K, .int .i64 M, .int .i64 B] 23)) w.heap.size K M B :=
  ⟨by simp, by simp, by simp, by simp, h.alloc h.size _⟩
/-- A place's box. -/
structure Ap (w : World) (p : Nat) (a b c d : Int) : Prop where
  a : w.cell? ⟨p, 0, none⟩ = some (.int .i64 a)
  b : w.cell? ⟨p, 1, none⟩ = some (.int .i64 b)
  c : w.cell? ⟨p, 2, none⟩ = some (.int .i64 c)
  d : w.cell? ⟨p, 3, none⟩ = some (.int .i64 d)
  lt : p < w.heap.size
theorem Ap.step {w w' : World} {x : Nat} {a b c d : Int} (h : Ap w x a b c d) (hb : Below w.heap.size w w') : Ap w' x a b c d := by
  obtain ⟨hc, hf⟩ := bcell hb
  have := h.lt
  exact ⟨by rw [hc _ _ (by omega)]; exact h.a, by rw [hc _ _ (by omega)]; exact h.b, by rw [hc _ _ (by omega)]; exact h.c, by rw [hc _ _ (by omega)]; exact h.d, Nat.lt_of_lt_of_le h.lt hb.size⟩
theorem Ap.alloc {w : World} {x : Nat} {a b c d : Int} (h : Ap w x a b c d) (o : Obj) : Ap (w.alloc o) x a b c d :=
  h.step ((Below.refl _ _).alloc (Nat.le_refl _) _)
theorem Ap.start (w : World) (a b c d : Int) : Ap (w.alloc (.cells #[.int .i64 a, .int .i64 b, .int .i64 c, .int .i64 d] 26)) w.heap.size a b c d :=
  ⟨by simp, by simp, by simp, by simp, by simp⟩

set_option maxRecDepth 100000 in
set_option maxHeartbeats 600000 in
theorem fit_any (K M B : Int) (w : World) (k1 : -9223372036854775808 ≤ K) (k2 : K ≤ 9223372036854775807) (m1 : -9223372036854775808 ≤ M) (m2 : M ≤ 9223372036854775807) (b1 : -9223372036854775808 ≤ B) (b2 : B ≤ 9223372036854775807) :
    Calls Try.prog 32 #[.agg #[.int .i64 K, .int .i64 M, .int .i64 B]] w fun e w' => e = .returned (.agg #[.int .i64 (fK K), .int .i64 (fM M), .int .i64 (fB B)]) ∧ Below w.heap.size w w' := by
  have h1 := pk_rng K 4 (by omega); have h2 := pk_rng M 3 (by omega); have h3 := pk_rng B 193 (by omega)
  have v1 : IntKind.i64.wrap (1 + pk K 4) = fK K := IntWalk.i64_in _ (by omega)
  have v2 : IntKind.i64.wrap (1 + pk M 3) = fM M := IntWalk.i64_in _ (by omega)
  have v3 : IntKind.i64.wrap (8 + pk B 193) = fB B := IntWalk.i64_in _ (by omega)
  have hB0 : Below w.heap.size w ((w.alloc (.cells #[.int .i64 K, .int .i64 M, .int .i64 B] 23)).alloc (.cells #[.int .i64 0, .int .i64 0, .int .i64 0] 23)) := ((Below.refl _ _).alloc (Nat.le_refl _) _).alloc (by simp) _
  have hf0 : ∀ i, ((w.alloc (.cells #[.int .i64 K, .int .i64 M, .int .i64 B] 23)).alloc (.cells #[.int .i64 0, .int .i64 0, .int .i64 0] 23)).frozen? ⟨w.heap.size + 1, i, none⟩ = false := fun i => by simp
  go_enter Try.func32, Try.ntmps32
  go_wp2
  go_region_held3 (fun w' => w'.cell? ⟨w.heap.size, 0, none⟩ = some (.int .i64 K) ∧ w'.cell? ⟨w.heap.size, 1, none⟩ = some (.int .i64 M) ∧ w'.cell? ⟨w.heap.size, 2, none⟩ = some (.int .i64 B)) (first | (simp; done) | go_keep)
    (first | (go_at_call 33; refine (pick_any _ _ _ (by omega) (by omega) (by omega) (by omega)).mono ?_; rintro e w' ⟨rfl, rfl⟩))
  all_goals go_wp2
  refine bodyPost_ret (v := .agg #[.int .i64 (fK K), .int .i64 (fM M), .int .i64 (fB B)]) ?_ rfl ⟨rfl, ?_⟩
  · simp only [results, Try.results32]
    simp [go_sem, v1, v2, v3]
  · exact (((Below.refl _ _).alloc (Nat.le_refl _) _).alloc (by simp) _).drew
set_option maxRecDepth 100000 in
set_option maxHeartbeats 1000000 in
theorem awake_any (w : World) :
    Calls Try.prog 9 #[] w fun e w' => e = .returned (.bool true) ∧ Below w.heap.size w w' := by
  have c0 : oSt 2 1 9 3 = 1 := by decide +kernel
  have c1 : oIx 2 1 9 3 = 1 := by decide +kernel
  have c2 : oSl 2 1 9 3 = 2 := by decide +kernel
  have c3 : oSe 2 1 9 3 = 69 := by decide +kernel
  have c4 : gErr 2 1 9 3 = 0 := by decide +kernel
  have c5 : gErr 2 1 9 9 = 71 := by decide +kernel
  have c6 : gIs 2 1 9 4 1 = false := by decide +kernel
  have c7 : gIs 2 1 9 4 0 = true := by decide +kernel
  have c8 : gBlock 2 1 9 4 0 = 8 := by decide +kernel
  have c9 : gR 2 1 9 = true := by decide +kernel
  have d0 : gSlots 2 1 9 = 3 := by decide +kernel
  have d1 : gStripes 2 1 9 = 5 := by decide +kernel
  have d2 : gBody 2 1 9 = 32 := by decide +kernel
  have d3 : gSectors 2 1 9 = 73 := by decide +kernel
  have d4 : gHead 2 1 9 6 = 2 := by decide +kernel
  have d5 : gHead 2 1 9 7 = 35 := by decide +kernel
  have hq := fun w => eql_place w 1 1 2 69 1 1 2 69
  have hqg := eql_place_guard
  have hg0 := Aw.start (w0 := w) (Below.refl _ w) 2 1 9
  go_enter Try.func9, Try.ntmps9
  go_wp2_with (first
    | (go_at_call_of 10 (Value.int .i64 3); refine (of_any _ _ _ _ _).mono ?_; rintro e w1 ⟨rfl, hb⟩; rw [c0, c1, c2, c3, c4]; (have hgn := Aw.step (by first | assumption | exact Aw.alloc (by assumption) _) hb; have hgx := hgn; obtain ⟨e0, e1, e2, e3, _⟩ := hgx))
    | (go_at_call 10; refine (of_any _ _ _ _ _).mono ?_; rintro e w2 ⟨rfl, hb⟩; rw [c5]; (have hgn := Aw.step (by first | assumption | exact Aw.alloc (by assumption) _) hb; have hgx := hgn; obtain ⟨e0, e1, e2, e3, _⟩ := hgx); (have hpn := Ap.step (by first | assumption | exact Ap.alloc (by assumption) _ | exact Ap.start _ _ _ _ _) hb; have hpx := hpn; obtain ⟨p0, p1, p2, p3, p4⟩ := hpx))
    | (go_at_call 12; refine (block_any _ _ _ _ _ _).mono ?_; rintro e w3 ⟨rfl, hb⟩; (first | rw [c6] | rw [c7, c8]); (have hgn := Aw.step (by first | assumption | exact Aw.alloc (by assumption) _) hb; have hgx := hgn; obtain ⟨e0, e1, e2, e3, _⟩ := hgx); (have hpn := Ap.step (by first | assumption | exact Ap.alloc (by assumption) _ | exact Ap.start _ _ _ _ _) hb; have hpx := hpn; obtain ⟨p0, p1, p2, p3, p4⟩ := hpx))
    | (go_at_call 14; refine (right_any _ _ _ _).mono ?_; rintro e w4 ⟨rfl, hb⟩; rw [c9]; (have hgn := Aw.step (by first | assumption | exact Aw.alloc (by assumption) _) hb; have hgx := hgn; obtain ⟨e0, e1, e2, e3, _⟩ := hgx); (have hpn := Ap.step (by first | assumption | exact Ap.alloc (by assumption) _ | exact Ap.start _ _ _ _ _) hb; have hpx := hpn; obtain ⟨p0, p1, p2, p3, p4⟩ := hpx))
    | (go_at_call 16; refine (slots_any _ _ _ _).mono ?_; rintro e w5 ⟨rfl, hb⟩; rw [d0]; (have hgn := Aw.step (by first | assumption | exact Aw.alloc (by assumption) _) hb; have hgx := hgn; obtain ⟨e0, e1, e2, e3, _⟩ := hgx); (have hpn := Ap.step (by first | assumption | exact Ap.alloc (by assumption) _ | exact Ap.start _ _ _ _ _) hb; have hpx := hpn; obtain ⟨p0, p1, p2, p3, p4⟩ := hpx))
    | (go_at_call 18; refine (stripes_any _ _ _ _).mono ?_; rintro e w6 ⟨rfl, hb⟩; rw [d1]; (have hgn := Aw.step (by first | assumption | exact Aw.alloc (by assumption) _) hb; have hgx := hgn; obtain ⟨e0, e1, e2, e3, _⟩ := hgx); (have hpn := Ap.step (by first | assumption | exact Ap.alloc (by assumption) _ | exact Ap.start _ _ _ _ _) hb; have hpx := hpn; obtain ⟨p0, p1, p2, p3, p4⟩ := hpx))
    | (go_at_call 22; refine (body_any _ _ _ _).mono ?_; rintro e w7 ⟨rfl, hb⟩; rw [d2]; (have hgn := Aw.step (by first | assumption | exact Aw.alloc (by assumption) _) hb; have hgx := hgn; obtain ⟨e0, e1, e2, e3, _⟩ := hgx); (have hpn := Ap.step (by first | assumption | exact Ap.alloc (by assumption) _ | exact Ap.start _ _ _ _ _) hb; have hpx := hpn; obtain ⟨p0, p1, p2, p3, p4⟩ := hpx))
    | (go_at_call 20; refine (sectors_any _ _ _ _).mono ?_; rintro e w8 ⟨rfl, hb⟩; rw [d3]; (have hgn := Aw.step (by first | assumption | exact Aw.alloc (by assumption) _) hb; have hgx := hgn; obtain ⟨e0, e1, e2, e3, _⟩ := hgx); (have hpn := Ap.step (by first | assumption | exact Ap.alloc (by assumption) _ | exact Ap.start _ _ _ _ _) hb; have hpx := hpn; obtain ⟨p0, p1, p2, p3, p4⟩ := hpx))
    | (go_at_call 30; refine (head_any _ _ _ _ _ (by omega)).mono ?_; rintro e w9 ⟨rfl, hb⟩; (first | rw [d4] | rw [d5]); (have hgn := Aw.step (by first | assumption | exact Aw.alloc (by assumption) _) hb; have hgx := hgn; obtain ⟨e0, e1, e2, e3, _⟩ := hgx); (have hpn := Ap.step (by first | assumption | exact Ap.alloc (by assumption) _ | exact Ap.start _ _ _ _ _) hb; have hpx := hpn; obtain ⟨p0, p1, p2, p3, p4⟩ := hpx)))
  go_ret
  exact ⟨rfl, Aw.bel (by assumption)⟩
end Go.Proofs.Ytfepfmibcjlkiaa
