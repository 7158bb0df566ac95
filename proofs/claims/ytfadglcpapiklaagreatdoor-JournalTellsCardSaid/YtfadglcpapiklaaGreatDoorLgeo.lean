/- Lgeo: what this claim reaches of GeoWalk, GeoWalk2, GeoWalk3 and others. -/
import Derived.Test.YtfadglcpapiklaaGreatDoorRows
import Derived.Tactics
import Derived.Tactics2
import Derived.WalkKit
import Derived.LoopTactic
import Derived.ChangeAlike
import Derived.RegionTactic
import Derived.Outline
import Derived.Lib.Hide
import Derived.Below
import Derived.BigQuiet
import Derived.Deep.QuietTactic
import Derived.Deep.RegionHeld3
import Derived.WalkLawsBesides
import Derived.Laws.StructEq
import Derived.Test.YtfadglcpapiklaaGreatDoorLbase
import Derived.Deep.DrawnRows
import Derived.Deep.RegionWith
section
namespace Go.Proofs.YtfadglcpapiklaaGreatDoor
open Go.RowKit
set_option linter.unusedVariables false
set_option linter.unusedSimpArgs false

theorem eql_geo (w : World) (a b c a' b' c' : Int) :
    (Op.equalIn 10000 23 (.agg #[.int .i64 a, .int .i64 b, .int .i64 c]) (.agg #[.int .i64 a', .int .i64 b', .int .i64 c'])).run Tryz.prog w = .ok (a == a' && b == b' && c == c') w := by
  have hS : Tryz.prog.underlying 23 = some (.struct (Tryz.prog.fieldsOf 23)) := by kernel_rfl
  have hp : Tryz.prog.stoodInHeld 23 = false := by kernel_rfl
  rw [show (10000 : Nat) = 9999 + 1 from rfl, run_equalIn_agg w 9999 23 _ _ hS hp]
  simp only [Program.fieldsOf, Tryz.underlying23]
  go_simp
  by_cases ha : a = a' <;> by_cases hb : b = b' <;> by_cases hc : c = c' <;> simp [ha, hb, hc]
theorem eql_geo_guard : Tryz.prog.eqGuardType Tryz.prog.depth 23 = false := by kernel_rfl
/-- A geometry that is right. -/
def gR (K M B : Int) : Bool := decide (1 ≤ K ∧ K ≤ 4 ∧ 1 ≤ M ∧ M ≤ 3 ∧ 8 ≤ B ∧ B ≤ 200)
theorem gR_true {K M B : Int} (h : gR K M B = true) : 1 ≤ K ∧ K ≤ 4 ∧ 1 ≤ M ∧ M ≤ 3 ∧ 8 ≤ B ∧ B ≤ 200 := by simpa [gR] using h
theorem gR_mk {K M B : Int} (h : 1 ≤ K ∧ K ≤ 4 ∧ 1 ≤ M ∧ M ≤ 3 ∧ 8 ≤ B ∧ B ≤ 200) : gR K M B = true := by simpa [gR] using h
def cl (x a b : Int) : Int := min (max x a) b

theorem cl_eq (K M B : Int) : gR K M B = (K == cl K 1 4 && M == cl M 1 3 && B == cl B 8 200) := by
  rw [Bool.eq_iff_iff]; simp only [gR, cl, Bool.and_eq_true, beq_iff_eq, decide_eq_true_eq]; omega
set_option maxRecDepth 100000 in
set_option maxHeartbeats 2000000 in
theorem bounded_any (K M B : Int) (w : World) :
    Calls Tryz.prog 106 #[.agg #[.int .i64 K, .int .i64 M, .int .i64 B]] w fun e w' => e = .returned (.agg #[.int .i64 (cl K 1 4), .int .i64 (cl M 1 3), .int .i64 (cl B 8 200)]) ∧ Below w.heap.size w w' := by
  go_enter Tryz.func106, Tryz.ntmps106
  go_wp2
  all_goals
    refine bodyPost_ret (v := .agg #[.int .i64 (cl K 1 4), .int .i64 (cl M 1 3), .int .i64 (cl B 8 200)]) ?_ rfl ⟨rfl, ((Below.refl _ _).alloc (Nat.le_refl _) _).alloc (by simp) _⟩
    simp only [cl, results, Tryz.results106]
    simp [go_sem]
    omega
theorem box_below {w w1 : World} {o : Obj} (hb : Below (w.alloc o).heap.size (w.alloc o) w1) : Below w.heap.size w w1 :=
  ((Below.refl _ _).alloc (Nat.le_refl _) _).trans (hb.mono (by simp))
theorem box3 {w wb : World} {T : TypeId} {a b c : Value} (h : w.alloc (.cells #[a, b, c] T) = wb) {Z : Type} {f : Z → World} (hD : ∀ z, Below wb.heap.size wb (f z)) :
    (∀ z, (f z).cell? ⟨w.heap.size, 0, none⟩ = some a) ∧ (∀ z, (f z).cell? ⟨w.heap.size, 1, none⟩ = some b) ∧ (∀ z, (f z).cell? ⟨w.heap.size, 2, none⟩ = some c) := by
  subst h
  have hz := clsCell hD
  exact ⟨fun z => by rw [hz z _ _ (by simp)]; simp, fun z => by rw [hz z _ _ (by simp)]; simp, fun z => by rw [hz z _ _ (by simp)]; simp⟩
set_option maxRecDepth 100000 in
theorem gright_any (K M B : Int) (w : World) :
    Calls Tryz.prog 77 #[.agg #[.int .i64 K, .int .i64 M, .int .i64 B]] w fun e w' => e = .returned (.bool (gR K M B)) ∧ Below w.heap.size w w' := by
  rw [cl_eq]
  go_enter Tryz.func77, Tryz.ntmps77
  go_wp2
  have hbb : Below w.heap.size w (w.alloc (.cells #[.int .i64 K, .int .i64 M, .int .i64 B] 23)) := (Below.refl _ _).alloc (Nat.le_refl _) _
  generalize hwb : w.alloc (.cells #[.int .i64 K, .int .i64 M, .int .i64 B] 23) = wb at *
  refine wp_region_cls (Below wb.heap.size wb) (by kernel_rfl) (by kernel_rfl) (Below.refl _ _).drew ?_
  intro Z f hne hD hE
  obtain ⟨b0, b1, b2⟩ := box3 hwb hD
  have hq := fun w => eql_geo w K M B (cl K 1 4) (cl M 1 3) (cl B 8 200)
  have hg := eql_geo_guard
  clear hwb
  repeat (go_big_quiet_step ((go_at_call 106; exact toQB hD hE _ (bounded_any _ _ _ _))))
  refine wpQuiet_nil ?_
  intro _ hw'
  obtain ⟨zq, hw''⟩ := hw'
  subst hw''
  have hz := hD zq
  go_wp2
  go_ret
  exact ⟨rfl, hbb.trans (hz.mono hbb.size)⟩

def gSlots (K M B : Int) : Int := if gR K M B then K + M else 0
def gStripes (K M B : Int) : Int := if gR K M B then (B + K - 1) / K else 0
def gBody (K M B : Int) : Int := if gR K M B then 16 * K else 0
def gSectors (K M B : Int) : Int := if gR K M B then 2 + 2 * (1 + 16 * K) + (B + K - 1) / K else 0
theorem div_rng {K B : Int} (h : 1 ≤ K ∧ K ≤ 4) (hB : 8 ≤ B ∧ B ≤ 200) : 1 ≤ (B + K - 1) / K ∧ (B + K - 1) / K ≤ 200 := by
  obtain ⟨h1, h2⟩ := h
  rcases (by omega : K = 1 ∨ K = 2 ∨ K = 3 ∨ K = 4) with rfl | rfl | rfl | rfl <;> omega
theorem stripes_rng (K M B : Int) : 0 ≤ gStripes K M B ∧ gStripes K M B ≤ 200 := by
  unfold gStripes
  cases h : gR K M B
  · simp
  · have := gR_true h
    have := div_rng (K := K) (B := B) (by omega) (by omega)
    simp; omega
theorem body_rng (K M B : Int) : 0 ≤ gBody K M B ∧ gBody K M B ≤ 64 := by
  unfold gBody
  cases h : gR K M B
  · simp
  · have := gR_true h; simp; omega
set_option maxRecDepth 100000 in
theorem slots_any (K M B : Int) (w : World) :
    Calls Tryz.prog 78 #[.agg #[.int .i64 K, .int .i64 M, .int .i64 B]] w fun e w' => e = .returned (.int .i64 (gSlots K M B)) ∧ Below w.heap.size w w' := by
  cases hR : gR K M B
  · have hv : Hid (gSlots K M B = 0) := Lib.hid (by unfold gSlots; rw [hR]; rfl)
    go_enter Tryz.func78, Tryz.ntmps78
    go_wp2_with (first | (go_at_call 77; refine (gright_any _ _ _ _).mono ?_; rintro e w1 ⟨rfl, hb⟩; obtain ⟨hc, hf⟩ := bcell hb))
    go_ret
    exact ⟨by rw [hv.out]; rfl, box_below hb⟩
  · obtain ⟨k1, k2, m1, m2, b1, b2⟩ := gR_true hR
    have hv : Hid (gSlots K M B = K + M) := Lib.hid (by unfold gSlots; rw [hR]; rfl)
    go_enter Tryz.func78, Tryz.ntmps78
    go_wp2_with (first | (go_at_call 77; refine (gright_any _ _ _ _).mono ?_; rintro e w1 ⟨rfl, hb⟩; obtain ⟨hc, hf⟩ := bcell hb))
    go_ret
    exact ⟨by rw [hv.out]; rfl, box_below hb⟩
set_option maxRecDepth 100000 in
theorem stripes_any (K M B : Int) (w : World) :
    Calls Tryz.prog 109 #[.agg #[.int .i64 K, .int .i64 M, .int .i64 B]] w fun e w' => e = .returned (.int .i64 (gStripes K M B)) ∧ Below w.heap.size w w' := by
  cases hR : gR K M B
  · have hv : Hid (gStripes K M B = 0) := Lib.hid (by unfold gStripes; rw [hR]; rfl)
    go_enter Tryz.func109, Tryz.ntmps109
    go_wp2_with (first | (go_at_call 77; refine (gright_any _ _ _ _).mono ?_; rintro e w1 ⟨rfl, hb⟩; obtain ⟨hc, hf⟩ := bcell hb))
    go_ret
    exact ⟨by rw [hv.out]; rfl, box_below hb⟩
  · obtain ⟨k1, k2, m1, m2, b1, b2⟩ := gR_true hR
    have hv : Hid (gStripes K M B = (B + K - 1) / K) := Lib.hid (by unfold gStripes; rw [hR]; rfl)
    go_enter Tryz.func109, Tryz.ntmps109
    go_wp2_with (first | (go_at_call 77; refine (gright_any _ _ _ _).mono ?_; rintro e w1 ⟨rfl, hb⟩; obtain ⟨hc, hf⟩ := bcell hb))
    go_ret
    exact ⟨by rw [hv.out]; rfl, box_below hb⟩
set_option maxRecDepth 100000 in
theorem body_any (K M B : Int) (w : World) :
    Calls Tryz.prog 118 #[.agg #[.int .i64 K, .int .i64 M, .int .i64 B]] w fun e w' => e = .returned (.int .i64 (gBody K M B)) ∧ Below w.heap.size w w' := by
  cases hR : gR K M B
  · have hv : Hid (gBody K M B = 0) := Lib.hid (by unfold gBody; rw [hR]; rfl)
    go_enter Tryz.func118, Tryz.ntmps118
    go_wp2_with (first | (go_at_call 77; refine (gright_any _ _ _ _).mono ?_; rintro e w1 ⟨rfl, hb⟩; obtain ⟨hc, hf⟩ := bcell hb))
    go_ret
    exact ⟨by rw [hv.out]; rfl, box_below hb⟩
  · obtain ⟨k1, k2, m1, m2, b1, b2⟩ := gR_true hR
    have hv : Hid (gBody K M B = 16 * K) := Lib.hid (by unfold gBody; rw [hR]; rfl)
    go_enter Tryz.func118, Tryz.ntmps118
    go_wp2_with (first | (go_at_call 77; refine (gright_any _ _ _ _).mono ?_; rintro e w1 ⟨rfl, hb⟩; obtain ⟨hc, hf⟩ := bcell hb))
    go_ret
    exact ⟨by rw [hv.out]; rfl, box_below hb⟩

theorem rright_any (K M B : Int) (w : World) :
    Calls Tryz.prog 55 #[.agg #[.int .i64 K, .int .i64 M, .int .i64 B]] w fun e w' => e = .returned (.bool (gR K M B)) ∧ Below w.heap.size w w' := by
  by_cases k1 : 1 ≤ K
  · by_cases k2 : K ≤ 4
    · by_cases m1 : 1 ≤ M
      · by_cases m2 : M ≤ 3
        · by_cases b1 : 8 ≤ B
          · by_cases b2 : B ≤ 200
            · rw [gR_mk ⟨k1, k2, m1, m2, b1, b2⟩]
              go_enter Tryz.func55, Tryz.ntmps55
              go_wp2
              go_ret
              exact ⟨rfl, (Below.refl _ _).alloc (Nat.le_refl _) _⟩
            all_goals skip
            · rw [show gR K M B = false by simp [gR]; omega]
              go_enter Tryz.func55, Tryz.ntmps55
              go_wp2
              go_ret
              exact ⟨rfl, (Below.refl _ _).alloc (Nat.le_refl _) _⟩
          all_goals skip
          · rw [show gR K M B = false by simp [gR]; omega]
            go_enter Tryz.func55, Tryz.ntmps55
            go_wp2
            go_ret
            exact ⟨rfl, (Below.refl _ _).alloc (Nat.le_refl _) _⟩
        all_goals skip
        · rw [show gR K M B = false by simp [gR]; omega]
          go_enter Tryz.func55, Tryz.ntmps55
          go_wp2
          go_ret
          exact ⟨rfl, (Below.refl _ _).alloc (Nat.le_refl _) _⟩
      all_goals skip
      · rw [show gR K M B = false by simp [gR]; omega]
        go_enter Tryz.func55, Tryz.ntmps55
        go_wp2
        go_ret
        exact ⟨rfl, (Below.refl _ _).alloc (Nat.le_refl _) _⟩
    all_goals skip
    · rw [show gR K M B = false by simp [gR]; omega]
      go_enter Tryz.func55, Tryz.ntmps55
      go_wp2
      go_ret
      exact ⟨rfl, (Below.refl _ _).alloc (Nat.le_refl _) _⟩
  all_goals skip
  · rw [show gR K M B = false by simp [gR]; omega]
    go_enter Tryz.func55, Tryz.ntmps55
    go_wp2
    go_ret
    exact ⟨rfl, (Below.refl _ _).alloc (Nat.le_refl _) _⟩
end Go.Proofs.YtfadglcpapiklaaGreatDoor
end
section
namespace Go.Proofs.YtfadglcpapiklaaGreatDoor
open Go.RowKit
set_option linter.unusedVariables false
set_option linter.unusedSimpArgs false

set_option maxRecDepth 100000 in
set_option maxHeartbeats 1000000 in
theorem rslots_any (K M B : Int) (w : World) :
    Calls Tryz.prog 38 #[.agg #[.int .i64 K, .int .i64 M, .int .i64 B]] w fun e w' => e = .returned (.int .i64 (gSlots K M B)) ∧ Below w.heap.size w w' := by
  have hB0 : Below w.heap.size w (w.alloc (.cells #[.int .i64 K, .int .i64 M, .int .i64 B] 23)) := (Below.refl _ _).alloc (Nat.le_refl _) _
  cases hR : gR K M B
  · have hv : Hid (gSlots K M B = 0) := Lib.hid (by unfold gSlots; rw [hR]; rfl)
    go_enter Tryz.func38, Tryz.ntmps38
    go_wp2_with (first | (go_at_call 55; refine (rright_any _ _ _ _).mono ?_; rintro e w1 ⟨rfl, hb⟩; obtain ⟨hc, hf⟩ := bcell hb; have hB := below_c (w0 := w) (by assumption) hb; have hlt : w.heap.size < w1.heap.size := Nat.lt_of_lt_of_le (by first | assumption | simp) hb.size))
    go_ret
    exact ⟨by rw [hv.out]; rfl, hB⟩
  · obtain ⟨k1, k2, m1, m2, b1, b2⟩ := gR_true hR
    have hv : Hid (gSlots K M B = K + M) := Lib.hid (by unfold gSlots; rw [hR]; rfl)
    go_enter Tryz.func38, Tryz.ntmps38
    go_wp2_with (first | (go_at_call 55; refine (rright_any _ _ _ _).mono ?_; rintro e w1 ⟨rfl, hb⟩; obtain ⟨hc, hf⟩ := bcell hb; have hB := below_c (w0 := w) (by assumption) hb; have hlt : w.heap.size < w1.heap.size := Nat.lt_of_lt_of_le (by first | assumption | simp) hb.size))
    go_ret
    exact ⟨by rw [hv.out]; rfl, hB⟩
set_option maxRecDepth 100000 in
set_option maxHeartbeats 1000000 in
theorem rbody_any (K M B : Int) (w : World) :
    Calls Tryz.prog 56 #[.agg #[.int .i64 K, .int .i64 M, .int .i64 B]] w fun e w' => e = .returned (.int .i64 (gBody K M B)) ∧ Below w.heap.size w w' := by
  have hB0 : Below w.heap.size w (w.alloc (.cells #[.int .i64 K, .int .i64 M, .int .i64 B] 23)) := (Below.refl _ _).alloc (Nat.le_refl _) _
  cases hR : gR K M B
  · have hv : Hid (gBody K M B = 0) := Lib.hid (by unfold gBody; rw [hR]; rfl)
    go_enter Tryz.func56, Tryz.ntmps56
    go_wp2_with (first | (go_at_call 55; refine (rright_any _ _ _ _).mono ?_; rintro e w1 ⟨rfl, hb⟩; obtain ⟨hc, hf⟩ := bcell hb; have hB := below_c (w0 := w) (by assumption) hb; have hlt : w.heap.size < w1.heap.size := Nat.lt_of_lt_of_le (by first | assumption | simp) hb.size))
    go_ret
    exact ⟨by rw [hv.out]; rfl, hB⟩
  · obtain ⟨k1, k2, m1, m2, b1, b2⟩ := gR_true hR
    have hv : Hid (gBody K M B = 16 * K) := Lib.hid (by unfold gBody; rw [hR]; rfl)
    go_enter Tryz.func56, Tryz.ntmps56
    go_wp2_with (first | (go_at_call 55; refine (rright_any _ _ _ _).mono ?_; rintro e w1 ⟨rfl, hb⟩; obtain ⟨hc, hf⟩ := bcell hb; have hB := below_c (w0 := w) (by assumption) hb; have hlt : w.heap.size < w1.heap.size := Nat.lt_of_lt_of_le (by first | assumption | simp) hb.size))
    go_ret
    exact ⟨by rw [hv.out]; rfl, hB⟩
set_option maxRecDepth 100000 in
set_option maxHeartbeats 1000000 in
theorem rstripes_any (K M B : Int) (w : World) :
    Calls Tryz.prog 36 #[.agg #[.int .i64 K, .int .i64 M, .int .i64 B]] w fun e w' => e = .returned (.int .i64 (gStripes K M B)) ∧ Below w.heap.size w w' := by
  have hB0 : Below w.heap.size w (w.alloc (.cells #[.int .i64 K, .int .i64 M, .int .i64 B] 23)) := (Below.refl _ _).alloc (Nat.le_refl _) _
  cases hR : gR K M B
  · have hv : Hid (gStripes K M B = 0) := Lib.hid (by unfold gStripes; rw [hR]; rfl)
    go_enter Tryz.func36, Tryz.ntmps36
    go_wp2_with (first | (go_at_call 55; refine (rright_any _ _ _ _).mono ?_; rintro e w1 ⟨rfl, hb⟩; obtain ⟨hc, hf⟩ := bcell hb; have hB := below_c (w0 := w) (by assumption) hb; have hlt : w.heap.size < w1.heap.size := Nat.lt_of_lt_of_le (by first | assumption | simp) hb.size))
    go_ret
    exact ⟨by rw [hv.out]; rfl, hB⟩
  · obtain ⟨k1, k2, m1, m2, b1, b2⟩ := gR_true hR
    by_cases hz : B % K = 0
    · have hv : Hid (gStripes K M B = B / K) := Lib.hid (by
        unfold gStripes; rw [hR]
        rcases (by omega : K = 1 ∨ K = 2 ∨ K = 3 ∨ K = 4) with rfl | rfl | rfl | rfl <;> simp <;> omega)
      have t : (B % K != 0) = false := by rw [hz]; rfl
      have g1 := div_rng (K := K) (B := B) (by omega) (by omega)
      clear hz
      go_enter Tryz.func36, Tryz.ntmps36
      go_wp2_with (first | (go_at_call 55; refine (rright_any _ _ _ _).mono ?_; rintro e w1 ⟨rfl, hb⟩; obtain ⟨hc, hf⟩ := bcell hb; have hB := below_c (w0 := w) (by assumption) hb; have hlt : w.heap.size < w1.heap.size := Nat.lt_of_lt_of_le (by first | assumption | simp) hb.size))
      go_ret
      exact ⟨by rw [hv.out]; rfl, hB⟩
    · have hv : Hid (gStripes K M B = B / K + 1) := Lib.hid (by
        unfold gStripes; rw [hR]
        rcases (by omega : K = 1 ∨ K = 2 ∨ K = 3 ∨ K = 4) with rfl | rfl | rfl | rfl <;> simp <;> omega)
      have t : (B % K != 0) = true := by rw [bne_iff_ne]; exact hz
      have g1 : 0 ≤ B / K ∧ B / K ≤ 200 := by
        rcases (by omega : K = 1 ∨ K = 2 ∨ K = 3 ∨ K = 4) with rfl | rfl | rfl | rfl <;> omega
      clear hz
      go_enter Tryz.func36, Tryz.ntmps36
      go_wp2_with (first | (go_at_call 55; refine (rright_any _ _ _ _).mono ?_; rintro e w1 ⟨rfl, hb⟩; obtain ⟨hc, hf⟩ := bcell hb; have hB := below_c (w0 := w) (by assumption) hb; have hlt : w.heap.size < w1.heap.size := Nat.lt_of_lt_of_le (by first | assumption | simp) hb.size))
      go_ret
      exact ⟨by rw [hv.out]; rfl, hB⟩
def gShards (K M B : Int) : Int := 2 + 2 * (1 + gBody K M B)
set_option maxRecDepth 100000 in
set_option maxHeartbeats 1000000 in
theorem bay_any (K M B : Int) (w : World) :
    Calls Tryz.prog 87 #[.agg #[.int .i64 K, .int .i64 M, .int .i64 B]] w fun e w' => e = .returned (.int .i64 (1 + gBody K M B)) ∧ Below w.heap.size w w' := by
  have hB0 : Below w.heap.size w (w.alloc (.cells #[.int .i64 K, .int .i64 M, .int .i64 B] 23)) := (Below.refl _ _).alloc (Nat.le_refl _) _
  have hr := body_rng K M B
  go_enter Tryz.func87, Tryz.ntmps87
  go_wp2_with (first | (go_at_call 118; refine (body_any _ _ _ _).mono ?_; rintro e w1 ⟨rfl, hb⟩; obtain ⟨hc, hf⟩ := bcell hb; have hB := below_c (w0 := w) (by assumption) hb; have hlt : w.heap.size < w1.heap.size := Nat.lt_of_lt_of_le (by first | assumption | simp) hb.size))
  go_ret
  exact ⟨rfl, hB⟩
set_option maxRecDepth 100000 in
set_option maxHeartbeats 1000000 in
theorem shards_any (K M B : Int) (w : World) :
    Calls Tryz.prog 108 #[.agg #[.int .i64 K, .int .i64 M, .int .i64 B]] w fun e w' => e = .returned (.int .i64 (gShards K M B)) ∧ Below w.heap.size w w' := by
  have hB0 : Below w.heap.size w (w.alloc (.cells #[.int .i64 K, .int .i64 M, .int .i64 B] 23)) := (Below.refl _ _).alloc (Nat.le_refl _) _
  have hr := body_rng K M B
  go_enter Tryz.func108, Tryz.ntmps108
  go_wp2_with (first | (go_at_call 87; refine (bay_any _ _ _ _).mono ?_; rintro e w1 ⟨rfl, hb⟩; obtain ⟨hc, hf⟩ := bcell hb; have hB := below_c (w0 := w) (by assumption) hb; have hlt : w.heap.size < w1.heap.size := Nat.lt_of_lt_of_le (by first | assumption | simp) hb.size))
  go_ret
  exact ⟨rfl, hB⟩
theorem shards_rng (K M B : Int) : 4 ≤ gShards K M B ∧ gShards K M B ≤ 132 := by have := body_rng K M B; unfold gShards; omega
theorem gSectors_eq (K M B : Int) (h : gR K M B = true) : gSectors K M B = gShards K M B + gStripes K M B := by
  unfold gSectors gShards gStripes gBody; rw [h]; rfl
theorem gBody_eq {K M B : Int} (h : gR K M B = true) : gBody K M B = 16 * K := by unfold gBody; rw [h]; rfl
set_option maxRecDepth 100000 in
set_option maxHeartbeats 1000000 in
theorem sectors_any (K M B : Int) (w : World) :
    Calls Tryz.prog 80 #[.agg #[.int .i64 K, .int .i64 M, .int .i64 B]] w fun e w' => e = .returned (.int .i64 (gSectors K M B)) ∧ Below w.heap.size w w' := by
  have hB0 : Below w.heap.size w (w.alloc (.cells #[.int .i64 K, .int .i64 M, .int .i64 B] 23)) := (Below.refl _ _).alloc (Nat.le_refl _) _
  have r1 := shards_rng K M B
  have r2 := stripes_rng K M B
  cases hR : gR K M B
  · have hv : Hid (gSectors K M B = 0) := Lib.hid (by unfold gSectors; rw [hR]; rfl)
    go_enter Tryz.func80, Tryz.ntmps80
    go_wp2_with (first | (go_at_call 77; refine (gright_any _ _ _ _).mono ?_; rintro e w1 ⟨rfl, hb⟩; obtain ⟨hc, hf⟩ := bcell hb; have hB := below_c (w0 := w) (by assumption) hb; have hlt : w.heap.size < w1.heap.size := Nat.lt_of_lt_of_le (by first | assumption | simp) hb.size) | (go_at_call 108; refine (shards_any _ _ _ _).mono ?_; rintro e w1 ⟨rfl, hb⟩; obtain ⟨hc, hf⟩ := bcell hb; have hB := below_c (w0 := w) (by assumption) hb; have hlt : w.heap.size < w1.heap.size := Nat.lt_of_lt_of_le (by first | assumption | simp) hb.size) | (go_at_call 109; refine (stripes_any _ _ _ _).mono ?_; rintro e w1 ⟨rfl, hb⟩; obtain ⟨hc, hf⟩ := bcell hb; have hB := below_c (w0 := w) (by assumption) hb; have hlt : w.heap.size < w1.heap.size := Nat.lt_of_lt_of_le (by first | assumption | simp) hb.size))
    go_ret
    exact ⟨by rw [hv.out]; rfl, hB⟩
  · have hv := Lib.hid (gSectors_eq K M B hR)
    go_enter Tryz.func80, Tryz.ntmps80
    go_wp2_with (first | (go_at_call 77; refine (gright_any _ _ _ _).mono ?_; rintro e w1 ⟨rfl, hb⟩; obtain ⟨hc, hf⟩ := bcell hb; have hB := below_c (w0 := w) (by assumption) hb; have hlt : w.heap.size < w1.heap.size := Nat.lt_of_lt_of_le (by first | assumption | simp) hb.size))
    refine wp_region_cls (Below w1.heap.size w1) (by kernel_rfl) (by kernel_rfl) (Below.refl _ _).drew ?_
    intro Z f hne hD hE
    have q0 : ∀ z, (f z).cell? ⟨w.heap.size, 0, none⟩ = some (.int .i64 K) := fun z => by rw [clsCell hD z _ _ hlt, hc _ _ (by simp)]; simp
    have q1 : ∀ z, (f z).cell? ⟨w.heap.size, 1, none⟩ = some (.int .i64 M) := fun z => by rw [clsCell hD z _ _ hlt, hc _ _ (by simp)]; simp
    have q2 : ∀ z, (f z).cell? ⟨w.heap.size, 2, none⟩ = some (.int .i64 B) := fun z => by rw [clsCell hD z _ _ hlt, hc _ _ (by simp)]; simp
    repeat (go_big_quiet_step (first | (go_at_call 108; exact toQB hD hE _ (shards_any _ _ _ _)) | (go_at_call 109; exact toQB hD hE _ (stripes_any _ _ _ _))))
    refine wpQuiet_nil ?_
    intro _ hw'
    obtain ⟨zq, hw''⟩ := hw'
    subst hw''
    have hz := hD zq
    go_wp2
    go_ret
    exact ⟨by rw [hv.out]; rfl, below_c hB hz⟩
set_option maxRecDepth 100000 in
set_option maxHeartbeats 1000000 in
theorem rsectors_any (K M B : Int) (w : World) :
    Calls Tryz.prog 39 #[.agg #[.int .i64 K, .int .i64 M, .int .i64 B]] w fun e w' => e = .returned (.int .i64 (gSectors K M B)) ∧ Below w.heap.size w w' := by
  have hB0 : Below w.heap.size w (w.alloc (.cells #[.int .i64 K, .int .i64 M, .int .i64 B] 23)) := (Below.refl _ _).alloc (Nat.le_refl _) _
  have r1 := body_rng K M B
  have r2 := stripes_rng K M B
  cases hR : gR K M B
  · have hv : Hid (gSectors K M B = 0) := Lib.hid (by unfold gSectors; rw [hR]; rfl)
    go_enter Tryz.func39, Tryz.ntmps39
    go_wp2_with (first | (go_at_call 55; refine (rright_any _ _ _ _).mono ?_; rintro e w1 ⟨rfl, hb⟩; obtain ⟨hc, hf⟩ := bcell hb; have hB := below_c (w0 := w) (by assumption) hb; have hlt : w.heap.size < w1.heap.size := Nat.lt_of_lt_of_le (by first | assumption | simp) hb.size) | (go_at_call 56; refine (rbody_any _ _ _ _).mono ?_; rintro e w1 ⟨rfl, hb⟩; obtain ⟨hc, hf⟩ := bcell hb; have hB := below_c (w0 := w) (by assumption) hb; have hlt : w.heap.size < w1.heap.size := Nat.lt_of_lt_of_le (by first | assumption | simp) hb.size) | (go_at_call 36; refine (rstripes_any _ _ _ _).mono ?_; rintro e w1 ⟨rfl, hb⟩; obtain ⟨hc, hf⟩ := bcell hb; have hB := below_c (w0 := w) (by assumption) hb; have hlt : w.heap.size < w1.heap.size := Nat.lt_of_lt_of_le (by first | assumption | simp) hb.size))
    go_ret
    exact ⟨by rw [hv.out]; rfl, hB⟩
  · have hv := Lib.hid (gSectors_eq K M B hR)
    go_enter Tryz.func39, Tryz.ntmps39
    go_wp2_with (first | (go_at_call 55; refine (rright_any _ _ _ _).mono ?_; rintro e w1 ⟨rfl, hb⟩; obtain ⟨hc, hf⟩ := bcell hb; have hB := below_c (w0 := w) (by assumption) hb; have hlt : w.heap.size < w1.heap.size := Nat.lt_of_lt_of_le (by first | assumption | simp) hb.size))
    refine wp_region_cls (Below w1.heap.size w1) (by kernel_rfl) (by kernel_rfl) (Below.refl _ _).drew ?_
    intro Z f hne hD hE
    have q0 : ∀ z, (f z).cell? ⟨w.heap.size, 0, none⟩ = some (.int .i64 K) := fun z => by rw [clsCell hD z _ _ hlt, hc _ _ (by simp)]; simp
    have q1 : ∀ z, (f z).cell? ⟨w.heap.size, 1, none⟩ = some (.int .i64 M) := fun z => by rw [clsCell hD z _ _ hlt, hc _ _ (by simp)]; simp
    have q2 : ∀ z, (f z).cell? ⟨w.heap.size, 2, none⟩ = some (.int .i64 B) := fun z => by rw [clsCell hD z _ _ hlt, hc _ _ (by simp)]; simp
    repeat (go_big_quiet_step (first | (go_at_call 56; exact toQB hD hE _ (rbody_any _ _ _ _)) | (go_at_call 36; exact toQB hD hE _ (rstripes_any _ _ _ _))))
    refine wpQuiet_nil ?_
    intro _ hw'
    obtain ⟨zq, hw''⟩ := hw'
    subst hw''
    have hz := hD zq
    go_wp2
    go_ret
    exact ⟨by rw [hv.out]; rfl, below_c hB hz⟩
/-- Is there such a stripe? -/
def gHas (K M B s : Int) : Bool := decide (0 ≤ s ∧ s < gStripes K M B)
end Go.Proofs.YtfadglcpapiklaaGreatDoor
end
section
namespace Go.Proofs.YtfadglcpapiklaaGreatDoor
open Go.RowKit
set_option linter.unusedVariables false
set_option linter.unusedSimpArgs false

def gHead (K M B q : Int) : Int := if gR K M B && decide (0 ≤ q) then 2 + q % 2 * (1 + 16 * K) else -1
set_option maxRecDepth 100000 in
set_option maxHeartbeats 1000000 in
theorem head_any (K M B : Int) (q : Int) (w : World) (hq : q ≤ 9223372036854775807) :
    Calls Tryz.prog 45 #[.agg #[.int .i64 K, .int .i64 M, .int .i64 B], .int .i64 q] w fun e w' => e = .returned (.int .i64 (gHead K M B q)) ∧ Below w.heap.size w w' := by
  have hB0 : Below w.heap.size w (w.alloc (.cells #[.int .i64 K, .int .i64 M, .int .i64 B] 23)) := (Below.refl _ _).alloc (Nat.le_refl _) _
  have r1 := body_rng K M B
  cases hR : gR K M B
  · have hv : Hid (gHead K M B q = -1) := Lib.hid (by unfold gHead; rw [hR]; rfl)
    go_enter Tryz.func45, Tryz.ntmps45
    go_wp2_with (first | (go_at_call 77; refine (gright_any _ _ _ _).mono ?_; rintro e w1 ⟨rfl, hb⟩; obtain ⟨hc, hf⟩ := bcell hb; have hB := below_c (w0 := w) (by assumption) hb; have hlt : w.heap.size < w1.heap.size := Nat.lt_of_lt_of_le (by first | assumption | simp) hb.size) | (go_at_call 87; refine (bay_any _ _ _ _).mono ?_; rintro e w1 ⟨rfl, hb⟩; obtain ⟨hc, hf⟩ := bcell hb; have hB := below_c (w0 := w) (by assumption) hb; have hlt : w.heap.size < w1.heap.size := Nat.lt_of_lt_of_le (by first | assumption | simp) hb.size))
    go_ret
    exact ⟨by rw [hv.out]; rfl, hB⟩
  · by_cases h0 : q < 0
    · have hv : Hid (gHead K M B q = -1) := Lib.hid (by unfold gHead; rw [hR, if_neg (by simp; omega)])
      go_enter Tryz.func45, Tryz.ntmps45
      go_wp2_with (first | (go_at_call 77; refine (gright_any _ _ _ _).mono ?_; rintro e w1 ⟨rfl, hb⟩; obtain ⟨hc, hf⟩ := bcell hb; have hB := below_c (w0 := w) (by assumption) hb; have hlt : w.heap.size < w1.heap.size := Nat.lt_of_lt_of_le (by first | assumption | simp) hb.size) | (go_at_call 87; refine (bay_any _ _ _ _).mono ?_; rintro e w1 ⟨rfl, hb⟩; obtain ⟨hc, hf⟩ := bcell hb; have hB := below_c (w0 := w) (by assumption) hb; have hlt : w.heap.size < w1.heap.size := Nat.lt_of_lt_of_le (by first | assumption | simp) hb.size))
      go_ret
      exact ⟨by rw [hv.out]; rfl, hB⟩
    · have t : decide (q < 0) = false := by simpa using h0
      obtain ⟨k1, k2, m1, m2, b1, b2⟩ := gR_true hR
      have hv : Hid (gHead K M B q = 2 + q % 2 * (1 + gBody K M B)) := Lib.hid (by unfold gHead; rw [hR, gBody_eq hR, if_pos (by simp; omega)])
      have z1 : 0 ≤ q % 2 * (1 + gBody K M B) ∧ q % 2 * (1 + gBody K M B) ≤ 65 := by
        rcases (by omega : q % 2 = 0 ∨ q % 2 = 1) with e | e <;> rw [e] <;> omega
      go_enter Tryz.func45, Tryz.ntmps45
      go_wp2_with (first | (go_at_call 77; refine (gright_any _ _ _ _).mono ?_; rintro e w1 ⟨rfl, hb⟩; obtain ⟨hc, hf⟩ := bcell hb; have hB := below_c (w0 := w) (by assumption) hb; have hlt : w.heap.size < w1.heap.size := Nat.lt_of_lt_of_le (by first | assumption | simp) hb.size) | (go_at_call 87; refine (bay_any _ _ _ _).mono ?_; rintro e w1 ⟨rfl, hb⟩; obtain ⟨hc, hf⟩ := bcell hb; have hB := below_c (w0 := w) (by assumption) hb; have hlt : w.heap.size < w1.heap.size := Nat.lt_of_lt_of_le (by first | assumption | simp) hb.size))
      go_ret
      exact ⟨by rw [hv.out]; rfl, hB⟩
set_option maxRecDepth 100000 in
set_option maxHeartbeats 1000000 in
theorem rhead_any (K M B : Int) (q : Int) (w : World) (hq : q ≤ 9223372036854775807) :
    Calls Tryz.prog 18 #[.agg #[.int .i64 K, .int .i64 M, .int .i64 B], .int .i64 q] w fun e w' => e = .returned (.int .i64 (gHead K M B q)) ∧ Below w.heap.size w w' := by
  have hB0 : Below w.heap.size w (w.alloc (.cells #[.int .i64 K, .int .i64 M, .int .i64 B] 23)) := (Below.refl _ _).alloc (Nat.le_refl _) _
  have r1 := body_rng K M B
  cases hR : gR K M B
  · have hv : Hid (gHead K M B q = -1) := Lib.hid (by unfold gHead; rw [hR]; rfl)
    go_enter Tryz.func18, Tryz.ntmps18
    go_wp2_with (first | (go_at_call 55; refine (rright_any _ _ _ _).mono ?_; rintro e w1 ⟨rfl, hb⟩; obtain ⟨hc, hf⟩ := bcell hb; have hB := below_c (w0 := w) (by assumption) hb; have hlt : w.heap.size < w1.heap.size := Nat.lt_of_lt_of_le (by first | assumption | simp) hb.size) | (go_at_call 56; refine (rbody_any _ _ _ _).mono ?_; rintro e w1 ⟨rfl, hb⟩; obtain ⟨hc, hf⟩ := bcell hb; have hB := below_c (w0 := w) (by assumption) hb; have hlt : w.heap.size < w1.heap.size := Nat.lt_of_lt_of_le (by first | assumption | simp) hb.size))
    go_ret
    exact ⟨by rw [hv.out]; rfl, hB⟩
  · by_cases h0 : q < 0
    · have hv : Hid (gHead K M B q = -1) := Lib.hid (by unfold gHead; rw [hR, if_neg (by simp; omega)])
      go_enter Tryz.func18, Tryz.ntmps18
      go_wp2_with (first | (go_at_call 55; refine (rright_any _ _ _ _).mono ?_; rintro e w1 ⟨rfl, hb⟩; obtain ⟨hc, hf⟩ := bcell hb; have hB := below_c (w0 := w) (by assumption) hb; have hlt : w.heap.size < w1.heap.size := Nat.lt_of_lt_of_le (by first | assumption | simp) hb.size) | (go_at_call 56; refine (rbody_any _ _ _ _).mono ?_; rintro e w1 ⟨rfl, hb⟩; obtain ⟨hc, hf⟩ := bcell hb; have hB := below_c (w0 := w) (by assumption) hb; have hlt : w.heap.size < w1.heap.size := Nat.lt_of_lt_of_le (by first | assumption | simp) hb.size))
      go_ret
      exact ⟨by rw [hv.out]; rfl, hB⟩
    · have t : decide (q < 0) = false := by simpa using h0
      by_cases h2 : q % 2 = 0
      · have hv : Hid (gHead K M B q = 2) := Lib.hid (by unfold gHead; rw [hR, if_pos (by simp; omega), h2]; omega)
        have t2 : (q % 2 == 0) = true := by rw [h2]; rfl
        clear h2
        go_enter Tryz.func18, Tryz.ntmps18
        go_wp2_with (first | (go_at_call 55; refine (rright_any _ _ _ _).mono ?_; rintro e w1 ⟨rfl, hb⟩; obtain ⟨hc, hf⟩ := bcell hb; have hB := below_c (w0 := w) (by assumption) hb; have hlt : w.heap.size < w1.heap.size := Nat.lt_of_lt_of_le (by first | assumption | simp) hb.size) | (go_at_call 56; refine (rbody_any _ _ _ _).mono ?_; rintro e w1 ⟨rfl, hb⟩; obtain ⟨hc, hf⟩ := bcell hb; have hB := below_c (w0 := w) (by assumption) hb; have hlt : w.heap.size < w1.heap.size := Nat.lt_of_lt_of_le (by first | assumption | simp) hb.size))
        go_ret
        exact ⟨by rw [hv.out]; rfl, hB⟩
      · have hv : Hid (gHead K M B q = 3 + gBody K M B) := Lib.hid (by unfold gHead; rw [hR, if_pos (by simp; omega), gBody_eq hR, show q % 2 = 1 by omega]; omega)
        have t2 : (q % 2 == 0) = false := by simpa using h2
        clear h2
        go_enter Tryz.func18, Tryz.ntmps18
        go_wp2_with (first | (go_at_call 55; refine (rright_any _ _ _ _).mono ?_; rintro e w1 ⟨rfl, hb⟩; obtain ⟨hc, hf⟩ := bcell hb; have hB := below_c (w0 := w) (by assumption) hb; have hlt : w.heap.size < w1.heap.size := Nat.lt_of_lt_of_le (by first | assumption | simp) hb.size) | (go_at_call 56; refine (rbody_any _ _ _ _).mono ?_; rintro e w1 ⟨rfl, hb⟩; obtain ⟨hc, hf⟩ := bcell hb; have hB := below_c (w0 := w) (by assumption) hb; have hlt : w.heap.size < w1.heap.size := Nat.lt_of_lt_of_le (by first | assumption | simp) hb.size))
        go_ret
        exact ⟨by rw [hv.out]; rfl, hB⟩
end Go.Proofs.YtfadglcpapiklaaGreatDoor
end
section
namespace Go.Proofs.YtfadglcpapiklaaGreatDoor
open Go.RowKit
set_option linter.unusedVariables false
set_option linter.unusedSimpArgs false
attribute [local go_sem ↓] Go.wp_at_zero Go.wp_at_succ

/-- The box of a geometry, and the box of a result that is still blank. -/
structure Boxes (w : World) (x : Nat) (K M B : Int) : Prop where
  k : w.cell? ⟨x, 0, none⟩ = some (.int .i64 K)
  m : w.cell? ⟨x, 1, none⟩ = some (.int .i64 M)
  b : w.cell? ⟨x, 2, none⟩ = some (.int .i64 B)
  r0 : w.cell? ⟨x + 1, 0, none⟩ = some (.int .i64 0)
  r1 : w.cell? ⟨x + 1, 1, none⟩ = some (.int .i64 0)
  r2 : w.cell? ⟨x + 1, 2, none⟩ = some (.int .i64 0)
  r3 : w.cell? ⟨x + 1, 3, none⟩ = some (.int .i64 0)
  f : ∀ i, w.frozen? ⟨x + 1, i, none⟩ = false
  lt : x + 1 < w.heap.size
theorem Boxes.below {w w' : World} {b : Nat} {K M B : Int} (h : Boxes w b K M B) (hb : Below w.heap.size w w') : Boxes w' b K M B := by
  obtain ⟨hc, hf⟩ := bcell hb
  have := h.lt
  exact ⟨by rw [hc _ _ (by omega)]; exact h.k, by rw [hc _ _ (by omega)]; exact h.m, by rw [hc _ _ (by omega)]; exact h.b, by rw [hc _ _ (by omega)]; exact h.r0, by rw [hc _ _ (by omega)]; exact h.r1,
    by rw [hc _ _ (by omega)]; exact h.r2, by rw [hc _ _ (by omega)]; exact h.r3, fun i => by rw [hf _ _ (by omega)]; exact h.f i, Nat.lt_of_lt_of_le h.lt hb.size⟩
theorem Boxes.drewN {w : World} {b : Nat} {K M B : Int} (h : Boxes w b K M B) (n : Nat) : Boxes (w.drewN n) b K M B := ⟨h.k, h.m, h.b, h.r0, h.r1, h.r2, h.r3, h.f, h.lt⟩
theorem Boxes.drew {w : World} {b : Nat} {K M B : Int} (h : Boxes w b K M B) : Boxes w.drew b K M B := ⟨h.k, h.m, h.b, h.r0, h.r1, h.r2, h.r3, h.f, h.lt⟩
end Go.Proofs.YtfadglcpapiklaaGreatDoor
end
section
namespace Go.Proofs.YtfadglcpapiklaaGreatDoor
set_option linter.unusedVariables false
set_option linter.unusedSimpArgs false

theorem k_cases {k m B : Int} (hR : gR k m B = true) : (k = 1 ∨ k = 2 ∨ k = 3 ∨ k = 4) ∧ (m = 1 ∨ m = 2 ∨ m = 3) ∧ 8 ≤ B ∧ B ≤ 200 := by
  obtain ⟨k1, k2, m1, m2, b1, b2⟩ := gR_true hR
  exact ⟨by omega, by omega, b1, b2⟩
theorem stripes_eq {k m B : Int} (hR : gR k m B = true) : gStripes k m B = (B + k - 1) / k := by unfold gStripes; rw [hR, if_pos rfl]
theorem slots_eq {k m B : Int} (hR : gR k m B = true) : gSlots k m B = k + m := by unfold gSlots; rw [hR, if_pos rfl]
theorem sectors_eq {k m B : Int} (hR : gR k m B = true) : gSectors k m B = 2 + 2 * (1 + 16 * k) + (B + k - 1) / k := by unfold gSectors; rw [hR, if_pos rfl]
theorem has_eq {k m B s : Int} (h0 : 0 ≤ s) (h1 : s < gStripes k m B) : gHas k m B s = true := by simp [gHas, h0, h1]
theorem div_lt {k m B A : Int} (hR : gR k m B = true) (h0 : 0 ≤ A) (h1 : A < B) : 0 ≤ A / k ∧ A / k < (B + k - 1) / k ∧ 0 ≤ A % k ∧ A % k < k ∧ A / k * k + A % k = A := by
  obtain ⟨hk, hm, hb⟩ := k_cases hR
  rcases hk with rfl | rfl | rfl | rfl <;> omega
end Go.Proofs.YtfadglcpapiklaaGreatDoor
end
