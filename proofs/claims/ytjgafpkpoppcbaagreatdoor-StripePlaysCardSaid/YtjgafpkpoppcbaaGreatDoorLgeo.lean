import Derived.Test.YtjgafpkpoppcbaaGreatDoorRows
import Derived.Tactics
import Derived.Tactics2
import Derived.WalkKit
import Derived.LoopTactic
import Derived.ChangeAlike
import Derived.RegionTactic
import Derived.Outline
import Derived.Lib.Hide
import Derived.Below
import Derived.BigQuiet
import Derived.Deep.QuietTactic
import Derived.Deep.RegionHeld3
import Derived.WalkLawsBesides
import Derived.Laws.StructEq
import Derived.Test.YtjgafpkpoppcbaaGreatDoorLbase
import Derived.Deep.RegionWith
import Derived.Deep.DrawnRows
set_option linter.unusedVariables false
set_option linter.unusedSimpArgs false
section
namespace Go.Proofs.YtjgafpkpoppcbaaGreatDoor
open Go.RowKit
theorem eql_geo (w : World) (a b c a' b' c' : Int) :
    (Op.equalIn 10000 23 (.agg #[.int .i64 a, .int .i64 b, .int .i64 c]) (.agg #[.int .i64 a', .int .i64 b', .int .i64 c'])).run Tryz.prog w = .ok (a == a' && b == b' && c == c') w := by
  have hS : Tryz.prog.underlying 23 = some (.struct (Tryz.prog.fieldsOf 23)) := by kernel_rfl
  have hp : Tryz.prog.stoodInHeld 23 = false := by kernel_rfl
  rw [show (10000 : Nat) = 9999 + 1 from rfl, run_equalIn_agg w 9999 23 _ _ hS hp]
  simp only [Program.fieldsOf, Tryz.underlying23]
  go_simp
  by_cases ha : a = a' <;> by_cases hb : b = b' <;> by_cases hc : c = c' <;> simp [ha, hb, hc]
theorem eql_geo_guard : Tryz.prog.eqGuardType Tryz.prog.depth 23 = false := by kernel_rfl
def gR (K M B : Int) : Bool := decide (1 ≤ K ∧ K ≤ 4 ∧ 1 ≤ M ∧ M ≤ 3 ∧ 8 ≤ B ∧ B ≤ 200)
theorem gR_true {K M B : Int} (h : gR K M B = true) : 1 ≤ K ∧ K ≤ 4 ∧ 1 ≤ M ∧ M ≤ 3 ∧ 8 ≤ B ∧ B ≤ 200 := by simpa [gR] using h
theorem gR_mk {K M B : Int} (h : 1 ≤ K ∧ K ≤ 4 ∧ 1 ≤ M ∧ M ≤ 3 ∧ 8 ≤ B ∧ B ≤ 200) : gR K M B = true := by simpa [gR] using h
def cl (x a b : Int) : Int := min (max x a) b
theorem cl_eq (K M B : Int) : gR K M B = (K == cl K 1 4 && M == cl M 1 3 && B == cl B 8 200) := by
  rw [Bool.eq_iff_iff]; simp only [gR, cl, Bool.and_eq_true, beq_iff_eq, decide_eq_true_eq]; omega
set_option maxRecDepth 100000 in
set_option maxHeartbeats 2000000 in
theorem bounded_any (K M B : Int) (w : World) :
    Calls Tryz.prog 147 #[.agg #[.int .i64 K, .int .i64 M, .int .i64 B]] w fun e w' => e = .returned (.agg #[.int .i64 (cl K 1 4), .int .i64 (cl M 1 3), .int .i64 (cl B 8 200)]) ∧ Below w.heap.size w w' := by
  go_enter Tryz.func147, Tryz.ntmps147
  go_wp2
  all_goals
    refine bodyPost_ret (v := .agg #[.int .i64 (cl K 1 4), .int .i64 (cl M 1 3), .int .i64 (cl B 8 200)]) ?_ rfl ⟨rfl, ((Below.refl _ _).alloc (Nat.le_refl _) _).alloc (by simp) _⟩
    simp only [cl, results, Tryz.results147]
    simp [go_sem]
    omega
theorem box_below {w w1 : World} {o : Obj} (hb : Below (w.alloc o).heap.size (w.alloc o) w1) : Below w.heap.size w w1 :=
  ((Below.refl _ _).alloc (Nat.le_refl _) _).trans (hb.mono (by simp))
theorem box3 {w wb : World} {T : TypeId} {a b c : Value} (h : w.alloc (.cells #[a, b, c] T) = wb) {Z : Type} {f : Z → World} (hD : ∀ z, Below wb.heap.size wb (f z)) :
    (∀ z, (f z).cell? ⟨w.heap.size, 0, none⟩ = some a) ∧ (∀ z, (f z).cell? ⟨w.heap.size, 1, none⟩ = some b) ∧ (∀ z, (f z).cell? ⟨w.heap.size, 2, none⟩ = some c) := by
  subst h
  have hz := clsCell hD
  exact ⟨fun z => by rw [hz z _ _ (by simp)]; simp, fun z => by rw [hz z _ _ (by simp)]; simp, fun z => by rw [hz z _ _ (by simp)]; simp⟩
set_option maxRecDepth 100000 in
theorem gright_any (K M B : Int) (w : World) :
    Calls Tryz.prog 118 #[.agg #[.int .i64 K, .int .i64 M, .int .i64 B]] w fun e w' => e = .returned (.bool (gR K M B)) ∧ Below w.heap.size w w' := by
  rw [cl_eq]
  go_enter Tryz.func118, Tryz.ntmps118
  go_wp2
  have hbb : Below w.heap.size w (w.alloc (.cells #[.int .i64 K, .int .i64 M, .int .i64 B] 23)) := (Below.refl _ _).alloc (Nat.le_refl _) _
  generalize hwb : w.alloc (.cells #[.int .i64 K, .int .i64 M, .int .i64 B] 23) = wb at *
  refine wp_region_cls (Below wb.heap.size wb) (by kernel_rfl) (by kernel_rfl) (Below.refl _ _).drew ?_
  intro Z f hne hD hE
  obtain ⟨b0, b1, b2⟩ := box3 hwb hD
  have hq := fun w => eql_geo w K M B (cl K 1 4) (cl M 1 3) (cl B 8 200)
  have hg := eql_geo_guard
  clear hwb
  repeat (go_big_quiet_step ((go_at_call 147; exact toQB hD hE _ (bounded_any _ _ _ _))))
  refine wpQuiet_nil ?_
  intro _ hw'
  obtain ⟨zq, hw''⟩ := hw'
  subst hw''
  have hz := hD zq
  go_wp2
  go_ret
  exact ⟨rfl, hbb.trans (hz.mono hbb.size)⟩
def gSlots (K M B : Int) : Int := if gR K M B then K + M else 0
def gStripes (K M B : Int) : Int := if gR K M B then (B + K - 1) / K else 0
def gBody (K M B : Int) : Int := if gR K M B then 16 * K else 0
def gSectors (K M B : Int) : Int := if gR K M B then 2 + 2 * (1 + 16 * K) + (B + K - 1) / K else 0
theorem div_rng {K B : Int} (h : 1 ≤ K ∧ K ≤ 4) (hB : 8 ≤ B ∧ B ≤ 200) : 1 ≤ (B + K - 1) / K ∧ (B + K - 1) / K ≤ 200 := by
  obtain ⟨h1, h2⟩ := h
  rcases (by omega : K = 1 ∨ K = 2 ∨ K = 3 ∨ K = 4) with rfl | rfl | rfl | rfl <;> omega
theorem stripes_rng (K M B : Int) : 0 ≤ gStripes K M B ∧ gStripes K M B ≤ 200 := by
  unfold gStripes
  cases h : gR K M B
  · simp
  · have := gR_true h
    have := div_rng (K := K) (B := B) (by omega) (by omega)
    simp; omega
theorem body_rng (K M B : Int) : 0 ≤ gBody K M B ∧ gBody K M B ≤ 64 := by
  unfold gBody
  cases h : gR K M B
  · simp
  · have := gR_true h; simp; omega
set_option maxRecDepth 100000 in
theorem slots_any (K M B : Int) (w : World) :
    Calls Tryz.prog 88 #[.agg #[.int .i64 K, .int .i64 M, .int .i64 B]] w fun e w' => e = .returned (.int .i64 (gSlots K M B)) ∧ Below w.heap.size w w' := by
  cases hR : gR K M B
  · have hv : Hid (gSlots K M B = 0) := Lib.hid (by unfold gSlots; rw [hR]; rfl)
    go_enter Tryz.func88, Tryz.ntmps88
    go_wp2_with (first | (go_at_call 118; refine (gright_any _ _ _ _).mono ?_; rintro e w1 ⟨rfl, hb⟩; obtain ⟨hc, hf⟩ := bcell hb))
    go_ret
    exact ⟨by rw [hv.out]; rfl, box_below hb⟩
  · obtain ⟨k1, k2, m1, m2, b1, b2⟩ := gR_true hR
    have hv : Hid (gSlots K M B = K + M) := Lib.hid (by unfold gSlots; rw [hR]; rfl)
    go_enter Tryz.func88, Tryz.ntmps88
    go_wp2_with (first | (go_at_call 118; refine (gright_any _ _ _ _).mono ?_; rintro e w1 ⟨rfl, hb⟩; obtain ⟨hc, hf⟩ := bcell hb))
    go_ret
    exact ⟨by rw [hv.out]; rfl, box_below hb⟩
set_option maxRecDepth 100000 in
theorem stripes_any (K M B : Int) (w : World) :
    Calls Tryz.prog 81 #[.agg #[.int .i64 K, .int .i64 M, .int .i64 B]] w fun e w' => e = .returned (.int .i64 (gStripes K M B)) ∧ Below w.heap.size w w' := by
  cases hR : gR K M B
  · have hv : Hid (gStripes K M B = 0) := Lib.hid (by unfold gStripes; rw [hR]; rfl)
    go_enter Tryz.func81, Tryz.ntmps81
    go_wp2_with (first | (go_at_call 118; refine (gright_any _ _ _ _).mono ?_; rintro e w1 ⟨rfl, hb⟩; obtain ⟨hc, hf⟩ := bcell hb))
    go_ret
    exact ⟨by rw [hv.out]; rfl, box_below hb⟩
  · obtain ⟨k1, k2, m1, m2, b1, b2⟩ := gR_true hR
    have hv : Hid (gStripes K M B = (B + K - 1) / K) := Lib.hid (by unfold gStripes; rw [hR]; rfl)
    go_enter Tryz.func81, Tryz.ntmps81
    go_wp2_with (first | (go_at_call 118; refine (gright_any _ _ _ _).mono ?_; rintro e w1 ⟨rfl, hb⟩; obtain ⟨hc, hf⟩ := bcell hb))
    go_ret
    exact ⟨by rw [hv.out]; rfl, box_below hb⟩
set_option maxRecDepth 100000 in
theorem body_any (K M B : Int) (w : World) :
    Calls Tryz.prog 159 #[.agg #[.int .i64 K, .int .i64 M, .int .i64 B]] w fun e w' => e = .returned (.int .i64 (gBody K M B)) ∧ Below w.heap.size w w' := by
  cases hR : gR K M B
  · have hv : Hid (gBody K M B = 0) := Lib.hid (by unfold gBody; rw [hR]; rfl)
    go_enter Tryz.func159, Tryz.ntmps159
    go_wp2_with (first | (go_at_call 118; refine (gright_any _ _ _ _).mono ?_; rintro e w1 ⟨rfl, hb⟩; obtain ⟨hc, hf⟩ := bcell hb))
    go_ret
    exact ⟨by rw [hv.out]; rfl, box_below hb⟩
  · obtain ⟨k1, k2, m1, m2, b1, b2⟩ := gR_true hR
    have hv : Hid (gBody K M B = 16 * K) := Lib.hid (by unfold gBody; rw [hR]; rfl)
    go_enter Tryz.func159, Tryz.ntmps159
    go_wp2_with (first | (go_at_call 118; refine (gright_any _ _ _ _).mono ?_; rintro e w1 ⟨rfl, hb⟩; obtain ⟨hc, hf⟩ := bcell hb))
    go_ret
    exact ⟨by rw [hv.out]; rfl, box_below hb⟩
theorem rright_any (K M B : Int) (w : World) :
    Calls Tryz.prog 65 #[.agg #[.int .i64 K, .int .i64 M, .int .i64 B]] w fun e w' => e = .returned (.bool (gR K M B)) ∧ Below w.heap.size w w' := by
  by_cases k1 : 1 ≤ K
  · by_cases k2 : K ≤ 4
    · by_cases m1 : 1 ≤ M
      · by_cases m2 : M ≤ 3
        · by_cases b1 : 8 ≤ B
          · by_cases b2 : B ≤ 200
            · rw [gR_mk ⟨k1, k2, m1, m2, b1, b2⟩]
              go_enter Tryz.func65, Tryz.ntmps65
              go_wp2
              go_ret
              exact ⟨rfl, (Below.refl _ _).alloc (Nat.le_refl _) _⟩
            all_goals skip
            · rw [show gR K M B = false by simp [gR]; omega]
              go_enter Tryz.func65, Tryz.ntmps65
              go_wp2
              go_ret
              exact ⟨rfl, (Below.refl _ _).alloc (Nat.le_refl _) _⟩
          all_goals skip
          · rw [show gR K M B = false by simp [gR]; omega]
            go_enter Tryz.func65, Tryz.ntmps65
            go_wp2
            go_ret
            exact ⟨rfl, (Below.refl _ _).alloc (Nat.le_refl _) _⟩
        all_goals skip
        · rw [show gR K M B = false by simp [gR]; omega]
          go_enter Tryz.func65, Tryz.ntmps65
          go_wp2
          go_ret
          exact ⟨rfl, (Below.refl _ _).alloc (Nat.le_refl _) _⟩
      all_goals skip
      · rw [show gR K M B = false by simp [gR]; omega]
        go_enter Tryz.func65, Tryz.ntmps65
        go_wp2
        go_ret
        exact ⟨rfl, (Below.refl _ _).alloc (Nat.le_refl _) _⟩
    all_goals skip
    · rw [show gR K M B = false by simp [gR]; omega]
      go_enter Tryz.func65, Tryz.ntmps65
      go_wp2
      go_ret
      exact ⟨rfl, (Below.refl _ _).alloc (Nat.le_refl _) _⟩
  all_goals skip
  · rw [show gR K M B = false by simp [gR]; omega]
    go_enter Tryz.func65, Tryz.ntmps65
    go_wp2
    go_ret
    exact ⟨rfl, (Below.refl _ _).alloc (Nat.le_refl _) _⟩
end Go.Proofs.YtjgafpkpoppcbaaGreatDoor
end
section
namespace Go.Proofs.YtjgafpkpoppcbaaGreatDoor
open Go.RowKit
set_option maxRecDepth 100000 in
set_option maxHeartbeats 1000000 in
theorem rslots_any (K M B : Int) (w : World) :
    Calls Tryz.prog 38 #[.agg #[.int .i64 K, .int .i64 M, .int .i64 B]] w fun e w' => e = .returned (.int .i64 (gSlots K M B)) ∧ Below w.heap.size w w' := by
  have hB0 : Below w.heap.size w (w.alloc (.cells #[.int .i64 K, .int .i64 M, .int .i64 B] 23)) := (Below.refl _ _).alloc (Nat.le_refl _) _
  cases hR : gR K M B
  · have hv : Hid (gSlots K M B = 0) := Lib.hid (by unfold gSlots; rw [hR]; rfl)
    go_enter Tryz.func38, Tryz.ntmps38
    go_wp2_with (first | (go_at_call 65; refine (rright_any _ _ _ _).mono ?_; rintro e w1 ⟨rfl, hb⟩; obtain ⟨hc, hf⟩ := bcell hb; have hB := below_c (w0 := w) (by assumption) hb; have hlt : w.heap.size < w1.heap.size := Nat.lt_of_lt_of_le (by first | assumption | simp) hb.size))
    go_ret
    exact ⟨by rw [hv.out]; rfl, hB⟩
  · obtain ⟨k1, k2, m1, m2, b1, b2⟩ := gR_true hR
    have hv : Hid (gSlots K M B = K + M) := Lib.hid (by unfold gSlots; rw [hR]; rfl)
    go_enter Tryz.func38, Tryz.ntmps38
    go_wp2_with (first | (go_at_call 65; refine (rright_any _ _ _ _).mono ?_; rintro e w1 ⟨rfl, hb⟩; obtain ⟨hc, hf⟩ := bcell hb; have hB := below_c (w0 := w) (by assumption) hb; have hlt : w.heap.size < w1.heap.size := Nat.lt_of_lt_of_le (by first | assumption | simp) hb.size))
    go_ret
    exact ⟨by rw [hv.out]; rfl, hB⟩
set_option maxRecDepth 100000 in
set_option maxHeartbeats 1000000 in
theorem rbody_any (K M B : Int) (w : World) :
    Calls Tryz.prog 64 #[.agg #[.int .i64 K, .int .i64 M, .int .i64 B]] w fun e w' => e = .returned (.int .i64 (gBody K M B)) ∧ Below w.heap.size w w' := by
  have hB0 : Below w.heap.size w (w.alloc (.cells #[.int .i64 K, .int .i64 M, .int .i64 B] 23)) := (Below.refl _ _).alloc (Nat.le_refl _) _
  cases hR : gR K M B
  · have hv : Hid (gBody K M B = 0) := Lib.hid (by unfold gBody; rw [hR]; rfl)
    go_enter Tryz.func64, Tryz.ntmps64
    go_wp2_with (first | (go_at_call 65; refine (rright_any _ _ _ _).mono ?_; rintro e w1 ⟨rfl, hb⟩; obtain ⟨hc, hf⟩ := bcell hb; have hB := below_c (w0 := w) (by assumption) hb; have hlt : w.heap.size < w1.heap.size := Nat.lt_of_lt_of_le (by first | assumption | simp) hb.size))
    go_ret
    exact ⟨by rw [hv.out]; rfl, hB⟩
  · obtain ⟨k1, k2, m1, m2, b1, b2⟩ := gR_true hR
    have hv : Hid (gBody K M B = 16 * K) := Lib.hid (by unfold gBody; rw [hR]; rfl)
    go_enter Tryz.func64, Tryz.ntmps64
    go_wp2_with (first | (go_at_call 65; refine (rright_any _ _ _ _).mono ?_; rintro e w1 ⟨rfl, hb⟩; obtain ⟨hc, hf⟩ := bcell hb; have hB := below_c (w0 := w) (by assumption) hb; have hlt : w.heap.size < w1.heap.size := Nat.lt_of_lt_of_le (by first | assumption | simp) hb.size))
    go_ret
    exact ⟨by rw [hv.out]; rfl, hB⟩
set_option maxRecDepth 100000 in
set_option maxHeartbeats 1000000 in
theorem rstripes_any (K M B : Int) (w : World) :
    Calls Tryz.prog 23 #[.agg #[.int .i64 K, .int .i64 M, .int .i64 B]] w fun e w' => e = .returned (.int .i64 (gStripes K M B)) ∧ Below w.heap.size w w' := by
  have hB0 : Below w.heap.size w (w.alloc (.cells #[.int .i64 K, .int .i64 M, .int .i64 B] 23)) := (Below.refl _ _).alloc (Nat.le_refl _) _
  cases hR : gR K M B
  · have hv : Hid (gStripes K M B = 0) := Lib.hid (by unfold gStripes; rw [hR]; rfl)
    go_enter Tryz.func23, Tryz.ntmps23
    go_wp2_with (first | (go_at_call 65; refine (rright_any _ _ _ _).mono ?_; rintro e w1 ⟨rfl, hb⟩; obtain ⟨hc, hf⟩ := bcell hb; have hB := below_c (w0 := w) (by assumption) hb; have hlt : w.heap.size < w1.heap.size := Nat.lt_of_lt_of_le (by first | assumption | simp) hb.size))
    go_ret
    exact ⟨by rw [hv.out]; rfl, hB⟩
  · obtain ⟨k1, k2, m1, m2, b1, b2⟩ := gR_true hR
    by_cases hz : B % K = 0
    · have hv : Hid (gStripes K M B = B / K) := Lib.hid (by
        unfold gStripes; rw [hR]
        rcases (by omega : K = 1 ∨ K = 2 ∨ K = 3 ∨ K = 4) with rfl | rfl | rfl | rfl <;> simp <;> omega)
      have t : (B % K != 0) = false := by rw [hz]; rfl
      have g1 := div_rng (K := K) (B := B) (by omega) (by omega)
      clear hz
      go_enter Tryz.func23, Tryz.ntmps23
      go_wp2_with (first | (go_at_call 65; refine (rright_any _ _ _ _).mono ?_; rintro e w1 ⟨rfl, hb⟩; obtain ⟨hc, hf⟩ := bcell hb; have hB := below_c (w0 := w) (by assumption) hb; have hlt : w.heap.size < w1.heap.size := Nat.lt_of_lt_of_le (by first | assumption | simp) hb.size))
      go_ret
      exact ⟨by rw [hv.out]; rfl, hB⟩
    · have hv : Hid (gStripes K M B = B / K + 1) := Lib.hid (by
        unfold gStripes; rw [hR]
        rcases (by omega : K = 1 ∨ K = 2 ∨ K = 3 ∨ K = 4) with rfl | rfl | rfl | rfl <;> simp <;> omega)
      have t : (B % K != 0) = true := by rw [bne_iff_ne]; exact hz
      have g1 : 0 ≤ B / K ∧ B / K ≤ 200 := by
        rcases (by omega : K = 1 ∨ K = 2 ∨ K = 3 ∨ K = 4) with rfl | rfl | rfl | rfl <;> omega
      clear hz
      go_enter Tryz.func23, Tryz.ntmps23
      go_wp2_with (first | (go_at_call 65; refine (rright_any _ _ _ _).mono ?_; rintro e w1 ⟨rfl, hb⟩; obtain ⟨hc, hf⟩ := bcell hb; have hB := below_c (w0 := w) (by assumption) hb; have hlt : w.heap.size < w1.heap.size := Nat.lt_of_lt_of_le (by first | assumption | simp) hb.size))
      go_ret
      exact ⟨by rw [hv.out]; rfl, hB⟩
def gShards (K M B : Int) : Int := 2 + 2 * (1 + gBody K M B)
set_option maxRecDepth 100000 in
set_option maxHeartbeats 1000000 in
theorem bay_any (K M B : Int) (w : World) :
    Calls Tryz.prog 127 #[.agg #[.int .i64 K, .int .i64 M, .int .i64 B]] w fun e w' => e = .returned (.int .i64 (1 + gBody K M B)) ∧ Below w.heap.size w w' := by
  have hB0 : Below w.heap.size w (w.alloc (.cells #[.int .i64 K, .int .i64 M, .int .i64 B] 23)) := (Below.refl _ _).alloc (Nat.le_refl _) _
  have hr := body_rng K M B
  go_enter Tryz.func127, Tryz.ntmps127
  go_wp2_with (first | (go_at_call 159; refine (body_any _ _ _ _).mono ?_; rintro e w1 ⟨rfl, hb⟩; obtain ⟨hc, hf⟩ := bcell hb; have hB := below_c (w0 := w) (by assumption) hb; have hlt : w.heap.size < w1.heap.size := Nat.lt_of_lt_of_le (by first | assumption | simp) hb.size))
  go_ret
  exact ⟨rfl, hB⟩
set_option maxRecDepth 100000 in
set_option maxHeartbeats 1000000 in
theorem shards_any (K M B : Int) (w : World) :
    Calls Tryz.prog 86 #[.agg #[.int .i64 K, .int .i64 M, .int .i64 B]] w fun e w' => e = .returned (.int .i64 (gShards K M B)) ∧ Below w.heap.size w w' := by
  have hB0 : Below w.heap.size w (w.alloc (.cells #[.int .i64 K, .int .i64 M, .int .i64 B] 23)) := (Below.refl _ _).alloc (Nat.le_refl _) _
  have hr := body_rng K M B
  go_enter Tryz.func86, Tryz.ntmps86
  go_wp2_with (first | (go_at_call 127; refine (bay_any _ _ _ _).mono ?_; rintro e w1 ⟨rfl, hb⟩; obtain ⟨hc, hf⟩ := bcell hb; have hB := below_c (w0 := w) (by assumption) hb; have hlt : w.heap.size < w1.heap.size := Nat.lt_of_lt_of_le (by first | assumption | simp) hb.size))
  go_ret
  exact ⟨rfl, hB⟩
theorem shards_rng (K M B : Int) : 4 ≤ gShards K M B ∧ gShards K M B ≤ 132 := by have := body_rng K M B; unfold gShards; omega
theorem gSectors_eq (K M B : Int) (h : gR K M B = true) : gSectors K M B = gShards K M B + gStripes K M B := by
  unfold gSectors gShards gStripes gBody; rw [h]; rfl
set_option maxRecDepth 100000 in
set_option maxHeartbeats 1000000 in
theorem sectors_any (K M B : Int) (w : World) :
    Calls Tryz.prog 120 #[.agg #[.int .i64 K, .int .i64 M, .int .i64 B]] w fun e w' => e = .returned (.int .i64 (gSectors K M B)) ∧ Below w.heap.size w w' := by
  have hB0 : Below w.heap.size w (w.alloc (.cells #[.int .i64 K, .int .i64 M, .int .i64 B] 23)) := (Below.refl _ _).alloc (Nat.le_refl _) _
  have r1 := shards_rng K M B
  have r2 := stripes_rng K M B
  cases hR : gR K M B
  · have hv : Hid (gSectors K M B = 0) := Lib.hid (by unfold gSectors; rw [hR]; rfl)
    go_enter Tryz.func120, Tryz.ntmps120
    go_wp2_with (first | (go_at_call 118; refine (gright_any _ _ _ _).mono ?_; rintro e w1 ⟨rfl, hb⟩; obtain ⟨hc, hf⟩ := bcell hb; have hB := below_c (w0 := w) (by assumption) hb; have hlt : w.heap.size < w1.heap.size := Nat.lt_of_lt_of_le (by first | assumption | simp) hb.size) | (go_at_call 86; refine (shards_any _ _ _ _).mono ?_; rintro e w1 ⟨rfl, hb⟩; obtain ⟨hc, hf⟩ := bcell hb; have hB := below_c (w0 := w) (by assumption) hb; have hlt : w.heap.size < w1.heap.size := Nat.lt_of_lt_of_le (by first | assumption | simp) hb.size) | (go_at_call 81; refine (stripes_any _ _ _ _).mono ?_; rintro e w1 ⟨rfl, hb⟩; obtain ⟨hc, hf⟩ := bcell hb; have hB := below_c (w0 := w) (by assumption) hb; have hlt : w.heap.size < w1.heap.size := Nat.lt_of_lt_of_le (by first | assumption | simp) hb.size))
    go_ret
    exact ⟨by rw [hv.out]; rfl, hB⟩
  · have hv := Lib.hid (gSectors_eq K M B hR)
    go_enter Tryz.func120, Tryz.ntmps120
    go_wp2_with (first | (go_at_call 118; refine (gright_any _ _ _ _).mono ?_; rintro e w1 ⟨rfl, hb⟩; obtain ⟨hc, hf⟩ := bcell hb; have hB := below_c (w0 := w) (by assumption) hb; have hlt : w.heap.size < w1.heap.size := Nat.lt_of_lt_of_le (by first | assumption | simp) hb.size))
    refine wp_region_cls (Below w1.heap.size w1) (by kernel_rfl) (by kernel_rfl) (Below.refl _ _).drew ?_
    intro Z f hne hD hE
    have q0 : ∀ z, (f z).cell? ⟨w.heap.size, 0, none⟩ = some (.int .i64 K) := fun z => by rw [clsCell hD z _ _ hlt, hc _ _ (by simp)]; simp
    have q1 : ∀ z, (f z).cell? ⟨w.heap.size, 1, none⟩ = some (.int .i64 M) := fun z => by rw [clsCell hD z _ _ hlt, hc _ _ (by simp)]; simp
    have q2 : ∀ z, (f z).cell? ⟨w.heap.size, 2, none⟩ = some (.int .i64 B) := fun z => by rw [clsCell hD z _ _ hlt, hc _ _ (by simp)]; simp
    repeat (go_big_quiet_step (first | (go_at_call 86; exact toQB hD hE _ (shards_any _ _ _ _)) | (go_at_call 81; exact toQB hD hE _ (stripes_any _ _ _ _))))
    refine wpQuiet_nil ?_
    intro _ hw'
    obtain ⟨zq, hw''⟩ := hw'
    subst hw''
    have hz := hD zq
    go_wp2
    go_ret
    exact ⟨by rw [hv.out]; rfl, below_c hB hz⟩
set_option maxRecDepth 100000 in
set_option maxHeartbeats 1000000 in
theorem rsectors_any (K M B : Int) (w : World) :
    Calls Tryz.prog 39 #[.agg #[.int .i64 K, .int .i64 M, .int .i64 B]] w fun e w' => e = .returned (.int .i64 (gSectors K M B)) ∧ Below w.heap.size w w' := by
  have hB0 : Below w.heap.size w (w.alloc (.cells #[.int .i64 K, .int .i64 M, .int .i64 B] 23)) := (Below.refl _ _).alloc (Nat.le_refl _) _
  have r1 := body_rng K M B
  have r2 := stripes_rng K M B
  cases hR : gR K M B
  · have hv : Hid (gSectors K M B = 0) := Lib.hid (by unfold gSectors; rw [hR]; rfl)
    go_enter Tryz.func39, Tryz.ntmps39
    go_wp2_with (first | (go_at_call 65; refine (rright_any _ _ _ _).mono ?_; rintro e w1 ⟨rfl, hb⟩; obtain ⟨hc, hf⟩ := bcell hb; have hB := below_c (w0 := w) (by assumption) hb; have hlt : w.heap.size < w1.heap.size := Nat.lt_of_lt_of_le (by first | assumption | simp) hb.size) | (go_at_call 64; refine (rbody_any _ _ _ _).mono ?_; rintro e w1 ⟨rfl, hb⟩; obtain ⟨hc, hf⟩ := bcell hb; have hB := below_c (w0 := w) (by assumption) hb; have hlt : w.heap.size < w1.heap.size := Nat.lt_of_lt_of_le (by first | assumption | simp) hb.size) | (go_at_call 23; refine (rstripes_any _ _ _ _).mono ?_; rintro e w1 ⟨rfl, hb⟩; obtain ⟨hc, hf⟩ := bcell hb; have hB := below_c (w0 := w) (by assumption) hb; have hlt : w.heap.size < w1.heap.size := Nat.lt_of_lt_of_le (by first | assumption | simp) hb.size))
    go_ret
    exact ⟨by rw [hv.out]; rfl, hB⟩
  · have hv := Lib.hid (gSectors_eq K M B hR)
    go_enter Tryz.func39, Tryz.ntmps39
    go_wp2_with (first | (go_at_call 65; refine (rright_any _ _ _ _).mono ?_; rintro e w1 ⟨rfl, hb⟩; obtain ⟨hc, hf⟩ := bcell hb; have hB := below_c (w0 := w) (by assumption) hb; have hlt : w.heap.size < w1.heap.size := Nat.lt_of_lt_of_le (by first | assumption | simp) hb.size))
    refine wp_region_cls (Below w1.heap.size w1) (by kernel_rfl) (by kernel_rfl) (Below.refl _ _).drew ?_
    intro Z f hne hD hE
    have q0 : ∀ z, (f z).cell? ⟨w.heap.size, 0, none⟩ = some (.int .i64 K) := fun z => by rw [clsCell hD z _ _ hlt, hc _ _ (by simp)]; simp
    have q1 : ∀ z, (f z).cell? ⟨w.heap.size, 1, none⟩ = some (.int .i64 M) := fun z => by rw [clsCell hD z _ _ hlt, hc _ _ (by simp)]; simp
    have q2 : ∀ z, (f z).cell? ⟨w.heap.size, 2, none⟩ = some (.int .i64 B) := fun z => by rw [clsCell hD z _ _ hlt, hc _ _ (by simp)]; simp
    repeat (go_big_quiet_step (first | (go_at_call 64; exact toQB hD hE _ (rbody_any _ _ _ _)) | (go_at_call 23; exact toQB hD hE _ (rstripes_any _ _ _ _))))
    refine wpQuiet_nil ?_
    intro _ hw'
    obtain ⟨zq, hw''⟩ := hw'
    subst hw''
    have hz := hD zq
    go_wp2
    go_ret
    exact ⟨by rw [hv.out]; rfl, below_c hB hz⟩
def gHas (K M B s : Int) : Bool := decide (0 ≤ s ∧ s < gStripes K M B)
theorem gHas_true {K M B s : Int} (h : gHas K M B s = true) : 0 ≤ s ∧ s < gStripes K M B := by simpa [gHas] using h
set_option maxRecDepth 100000 in
set_option maxHeartbeats 1000000 in
theorem ghas_any (K M B : Int) (s : Int) (w : World) :
    Calls Tryz.prog 85 #[.agg #[.int .i64 K, .int .i64 M, .int .i64 B], .int .i64 s] w fun e w' => e = .returned (.bool (gHas K M B s)) ∧ Below w.heap.size w w' := by
  have hB0 : Below w.heap.size w (w.alloc (.cells #[.int .i64 K, .int .i64 M, .int .i64 B] 23)) := (Below.refl _ _).alloc (Nat.le_refl _) _
  by_cases h1 : 0 ≤ s
  · by_cases h2 : s < gStripes K M B
    · have hv : Hid (gHas K M B s = true) := Lib.hid (by simp [gHas]; omega)
      go_enter Tryz.func85, Tryz.ntmps85
      go_wp2_with (first | (go_at_call 81; refine (stripes_any _ _ _ _).mono ?_; rintro e w1 ⟨rfl, hb⟩; obtain ⟨hc, hf⟩ := bcell hb; have hB := below_c (w0 := w) (by assumption) hb; have hlt : w.heap.size < w1.heap.size := Nat.lt_of_lt_of_le (by first | assumption | simp) hb.size))
      go_ret
      exact ⟨by rw [hv.out]; rfl, hB⟩
    · have hv : Hid (gHas K M B s = false) := Lib.hid (by simp [gHas]; omega)
      have h3 : decide (s < gStripes K M B) = false := by simpa using h2
      go_enter Tryz.func85, Tryz.ntmps85
      go_wp2_with (first | (go_at_call 81; refine (stripes_any _ _ _ _).mono ?_; rintro e w1 ⟨rfl, hb⟩; obtain ⟨hc, hf⟩ := bcell hb; have hB := below_c (w0 := w) (by assumption) hb; have hlt : w.heap.size < w1.heap.size := Nat.lt_of_lt_of_le (by first | assumption | simp) hb.size))
      go_ret
      exact ⟨by rw [hv.out]; rfl, hB⟩
  · have hv : Hid (gHas K M B s = false) := Lib.hid (by simp [gHas]; omega)
    have h3 : decide (0 ≤ s) = false := by simpa using h1
    go_enter Tryz.func85, Tryz.ntmps85
    go_wp2_with (first | (go_at_call 81; refine (stripes_any _ _ _ _).mono ?_; rintro e w1 ⟨rfl, hb⟩; obtain ⟨hc, hf⟩ := bcell hb; have hB := below_c (w0 := w) (by assumption) hb; have hlt : w.heap.size < w1.heap.size := Nat.lt_of_lt_of_le (by first | assumption | simp) hb.size))
    go_ret
    exact ⟨by rw [hv.out]; rfl, hB0⟩
set_option maxRecDepth 100000 in
set_option maxHeartbeats 1000000 in
theorem rhas_any (K M B : Int) (s : Int) (w : World) :
    Calls Tryz.prog 63 #[.agg #[.int .i64 K, .int .i64 M, .int .i64 B], .int .i64 s] w fun e w' => e = .returned (.bool (gHas K M B s)) ∧ Below w.heap.size w w' := by
  have hB0 : Below w.heap.size w (w.alloc (.cells #[.int .i64 K, .int .i64 M, .int .i64 B] 23)) := (Below.refl _ _).alloc (Nat.le_refl _) _
  by_cases h1 : 0 ≤ s
  · by_cases h2 : s < gStripes K M B
    · have hv : Hid (gHas K M B s = true) := Lib.hid (by simp [gHas]; omega)
      go_enter Tryz.func63, Tryz.ntmps63
      go_wp2_with (first | (go_at_call 23; refine (rstripes_any _ _ _ _).mono ?_; rintro e w1 ⟨rfl, hb⟩; obtain ⟨hc, hf⟩ := bcell hb; have hB := below_c (w0 := w) (by assumption) hb; have hlt : w.heap.size < w1.heap.size := Nat.lt_of_lt_of_le (by first | assumption | simp) hb.size))
      go_ret
      exact ⟨by rw [hv.out]; rfl, hB⟩
    · have hv : Hid (gHas K M B s = false) := Lib.hid (by simp [gHas]; omega)
      have h3 : decide (s < gStripes K M B) = false := by simpa using h2
      go_enter Tryz.func63, Tryz.ntmps63
      go_wp2_with (first | (go_at_call 23; refine (rstripes_any _ _ _ _).mono ?_; rintro e w1 ⟨rfl, hb⟩; obtain ⟨hc, hf⟩ := bcell hb; have hB := below_c (w0 := w) (by assumption) hb; have hlt : w.heap.size < w1.heap.size := Nat.lt_of_lt_of_le (by first | assumption | simp) hb.size))
      go_ret
      exact ⟨by rw [hv.out]; rfl, hB⟩
  · have hv : Hid (gHas K M B s = false) := Lib.hid (by simp [gHas]; omega)
    have h3 : decide (0 ≤ s) = false := by simpa using h1
    go_enter Tryz.func63, Tryz.ntmps63
    go_wp2_with (first | (go_at_call 23; refine (rstripes_any _ _ _ _).mono ?_; rintro e w1 ⟨rfl, hb⟩; obtain ⟨hc, hf⟩ := bcell hb; have hB := below_c (w0 := w) (by assumption) hb; have hlt : w.heap.size < w1.heap.size := Nat.lt_of_lt_of_le (by first | assumption | simp) hb.size))
    go_ret
    exact ⟨by rw [hv.out]; rfl, hB0⟩
end Go.Proofs.YtjgafpkpoppcbaaGreatDoor
end
section
namespace Go.Proofs.YtjgafpkpoppcbaaGreatDoor
open Go.RowKit
def gShard (K M B s i : Int) : Bool := gHas K M B s && decide (0 ≤ i ∧ i < gSlots K M B)
theorem gShard_true {K M B s i : Int} (h : gShard K M B s i = true) : gHas K M B s = true ∧ 0 ≤ i ∧ i < gSlots K M B := by simpa [gShard] using h
theorem slots_pos {K M B s : Int} (h : gHas K M B s = true) : gR K M B = true ∧ gSlots K M B = K + M := by
  have h1 := gHas_true h
  have : gR K M B = true := by
    cases hR : gR K M B
    · have : gStripes K M B = 0 := by unfold gStripes; rw [hR]; rfl
      omega
    · rfl
  exact ⟨this, by unfold gSlots; rw [this]; rfl⟩
def gSlot (K M B s i : Int) : Int := if gShard K M B s i then (i + s) % (K + M) else -1
def gIndex (K M B s t : Int) : Int := if gShard K M B s t then (t + (K + M) - s % (K + M)) % (K + M) else -1
def gSector (K M B s : Int) : Int := if gHas K M B s then gShards K M B + s else -1
set_option maxRecDepth 100000 in
set_option maxHeartbeats 1000000 in
theorem shard_any (K M B : Int) (s : Int) (i : Int) (w : World) :
    Calls Tryz.prog 87 #[.agg #[.int .i64 K, .int .i64 M, .int .i64 B], .int .i64 s, .int .i64 i] w fun e w' => e = .returned (.bool (gShard K M B s i)) ∧ Below w.heap.size w w' := by
  have hB0 : Below w.heap.size w (w.alloc (.cells #[.int .i64 K, .int .i64 M, .int .i64 B] 23)) := (Below.refl _ _).alloc (Nat.le_refl _) _
  cases h1 : gHas K M B s
  · have hv : Hid (gShard K M B s i = false) := Lib.hid (by simp [gShard, h1])
    go_enter Tryz.func87, Tryz.ntmps87
    go_wp2_with (first | (go_at_call 85; refine (ghas_any _ _ _ _ _).mono ?_; rintro e w1 ⟨rfl, hb⟩; obtain ⟨hc, hf⟩ := bcell hb; have hB := below_c (w0 := w) (by assumption) hb; have hlt : w.heap.size < w1.heap.size := Nat.lt_of_lt_of_le (by first | assumption | simp) hb.size) | (go_at_call 88; refine (slots_any _ _ _ _).mono ?_; rintro e w1 ⟨rfl, hb⟩; obtain ⟨hc, hf⟩ := bcell hb; have hB := below_c (w0 := w) (by assumption) hb; have hlt : w.heap.size < w1.heap.size := Nat.lt_of_lt_of_le (by first | assumption | simp) hb.size))
    go_ret
    exact ⟨by rw [hv.out]; rfl, hB⟩
  · by_cases h2 : 0 ≤ i
    · by_cases h3 : i < gSlots K M B
      · have hv : Hid (gShard K M B s i = true) := Lib.hid (by simp [gShard, h1]; omega)
        go_enter Tryz.func87, Tryz.ntmps87
        go_wp2_with (first | (go_at_call 85; refine (ghas_any _ _ _ _ _).mono ?_; rintro e w1 ⟨rfl, hb⟩; obtain ⟨hc, hf⟩ := bcell hb; have hB := below_c (w0 := w) (by assumption) hb; have hlt : w.heap.size < w1.heap.size := Nat.lt_of_lt_of_le (by first | assumption | simp) hb.size) | (go_at_call 88; refine (slots_any _ _ _ _).mono ?_; rintro e w1 ⟨rfl, hb⟩; obtain ⟨hc, hf⟩ := bcell hb; have hB := below_c (w0 := w) (by assumption) hb; have hlt : w.heap.size < w1.heap.size := Nat.lt_of_lt_of_le (by first | assumption | simp) hb.size))
        go_ret
        exact ⟨by rw [hv.out]; rfl, hB⟩
      · have hv : Hid (gShard K M B s i = false) := Lib.hid (by simp [gShard, h1]; omega)
        have h4 : decide (i < gSlots K M B) = false := by simpa using h3
        go_enter Tryz.func87, Tryz.ntmps87
        go_wp2_with (first | (go_at_call 85; refine (ghas_any _ _ _ _ _).mono ?_; rintro e w1 ⟨rfl, hb⟩; obtain ⟨hc, hf⟩ := bcell hb; have hB := below_c (w0 := w) (by assumption) hb; have hlt : w.heap.size < w1.heap.size := Nat.lt_of_lt_of_le (by first | assumption | simp) hb.size) | (go_at_call 88; refine (slots_any _ _ _ _).mono ?_; rintro e w1 ⟨rfl, hb⟩; obtain ⟨hc, hf⟩ := bcell hb; have hB := below_c (w0 := w) (by assumption) hb; have hlt : w.heap.size < w1.heap.size := Nat.lt_of_lt_of_le (by first | assumption | simp) hb.size))
        go_ret
        exact ⟨by rw [hv.out]; rfl, hB⟩
    · have hv : Hid (gShard K M B s i = false) := Lib.hid (by simp [gShard, h1]; omega)
      have h4 : decide (0 ≤ i) = false := by simpa using h2
      go_enter Tryz.func87, Tryz.ntmps87
      go_wp2_with (first | (go_at_call 85; refine (ghas_any _ _ _ _ _).mono ?_; rintro e w1 ⟨rfl, hb⟩; obtain ⟨hc, hf⟩ := bcell hb; have hB := below_c (w0 := w) (by assumption) hb; have hlt : w.heap.size < w1.heap.size := Nat.lt_of_lt_of_le (by first | assumption | simp) hb.size) | (go_at_call 88; refine (slots_any _ _ _ _).mono ?_; rintro e w1 ⟨rfl, hb⟩; obtain ⟨hc, hf⟩ := bcell hb; have hB := below_c (w0 := w) (by assumption) hb; have hlt : w.heap.size < w1.heap.size := Nat.lt_of_lt_of_le (by first | assumption | simp) hb.size))
      go_ret
      exact ⟨by rw [hv.out]; rfl, hB⟩
set_option maxRecDepth 100000 in
set_option maxHeartbeats 1000000 in
theorem rslot_any (K M B : Int) (s : Int) (i : Int) (w : World) :
    Calls Tryz.prog 95 #[.agg #[.int .i64 K, .int .i64 M, .int .i64 B], .int .i64 s, .int .i64 i] w fun e w' => e = .returned (.int .i64 (gSlot K M B s i)) ∧ Below w.heap.size w w' := by
  have hB0 : Below w.heap.size w (w.alloc (.cells #[.int .i64 K, .int .i64 M, .int .i64 B] 23)) := (Below.refl _ _).alloc (Nat.le_refl _) _
  cases h0 : gHas K M B s
  · have hv : Hid (gSlot K M B s i = -1) := Lib.hid (by unfold gSlot gShard; rw [h0]; rfl)
    go_enter Tryz.func95, Tryz.ntmps95
    go_wp2_with (first | (go_at_call 63; refine (rhas_any _ _ _ _ _).mono ?_; rintro e w1 ⟨rfl, hb⟩; obtain ⟨hc, hf⟩ := bcell hb; have hB := below_c (w0 := w) (by assumption) hb; have hlt : w.heap.size < w1.heap.size := Nat.lt_of_lt_of_le (by first | assumption | simp) hb.size) | (go_at_call 38; refine (rslots_any _ _ _ _).mono ?_; rintro e w1 ⟨rfl, hb⟩; obtain ⟨hc, hf⟩ := bcell hb; have hB := below_c (w0 := w) (by assumption) hb; have hlt : w.heap.size < w1.heap.size := Nat.lt_of_lt_of_le (by first | assumption | simp) hb.size))
    go_ret
    exact ⟨by rw [hv.out]; rfl, hB⟩
  · by_cases h2 : i < 0
    · have hv : Hid (gSlot K M B s i = -1) := Lib.hid (by unfold gSlot gShard; rw [h0, if_neg (by simp; omega)])
      go_enter Tryz.func95, Tryz.ntmps95
      go_wp2_with (first | (go_at_call 63; refine (rhas_any _ _ _ _ _).mono ?_; rintro e w1 ⟨rfl, hb⟩; obtain ⟨hc, hf⟩ := bcell hb; have hB := below_c (w0 := w) (by assumption) hb; have hlt : w.heap.size < w1.heap.size := Nat.lt_of_lt_of_le (by first | assumption | simp) hb.size) | (go_at_call 38; refine (rslots_any _ _ _ _).mono ?_; rintro e w1 ⟨rfl, hb⟩; obtain ⟨hc, hf⟩ := bcell hb; have hB := below_c (w0 := w) (by assumption) hb; have hlt : w.heap.size < w1.heap.size := Nat.lt_of_lt_of_le (by first | assumption | simp) hb.size))
      go_ret
      exact ⟨by rw [hv.out]; rfl, hB⟩
    · by_cases h3 : gSlots K M B ≤ i
      · have hv : Hid (gSlot K M B s i = -1) := Lib.hid (by unfold gSlot gShard; rw [h0, if_neg (by simp; omega)])
        have t : decide (i < 0) = false := by simpa using h2
        go_enter Tryz.func95, Tryz.ntmps95
        go_wp2_with (first | (go_at_call 63; refine (rhas_any _ _ _ _ _).mono ?_; rintro e w1 ⟨rfl, hb⟩; obtain ⟨hc, hf⟩ := bcell hb; have hB := below_c (w0 := w) (by assumption) hb; have hlt : w.heap.size < w1.heap.size := Nat.lt_of_lt_of_le (by first | assumption | simp) hb.size) | (go_at_call 38; refine (rslots_any _ _ _ _).mono ?_; rintro e w1 ⟨rfl, hb⟩; obtain ⟨hc, hf⟩ := bcell hb; have hB := below_c (w0 := w) (by assumption) hb; have hlt : w.heap.size < w1.heap.size := Nat.lt_of_lt_of_le (by first | assumption | simp) hb.size))
        go_ret
        exact ⟨by rw [hv.out]; rfl, hB⟩
      · have h1 : gShard K M B s i = true := by simp [gShard, h0]; omega
        have t : decide (i < 0) = false := by simpa using h2
        have t2 : decide (gSlots K M B ≤ i) = false := by simpa using h3
        have hv : Hid (gSlot K M B s i = (i + s) % (K + M)) := Lib.hid (by unfold gSlot; rw [h1]; rfl)
        obtain ⟨x1, x2, x3⟩ := gShard_true h1
        obtain ⟨x4, x5⟩ := slots_pos x1
        have x6 := gHas_true x1
        have x7 := stripes_rng K M B
        obtain ⟨k1, k2, m1, m2, b1, b2⟩ := gR_true x4
        rw [x5] at x3
        have X1 := Lib.hid x1
        rw [x5] at t2
        clear x1 x4 h1 h3
        go_enter Tryz.func95, Tryz.ntmps95
        go_wp2_with (first | (go_at_call 63; refine (rhas_any _ _ _ _ _).mono ?_; rintro e w1 ⟨rfl, hb⟩; obtain ⟨hc, hf⟩ := bcell hb; have hB := below_c (w0 := w) (by assumption) hb; have hlt : w.heap.size < w1.heap.size := Nat.lt_of_lt_of_le (by first | assumption | simp) hb.size) | (go_at_call 38; refine (rslots_any _ _ _ _).mono ?_; rintro e w1 ⟨rfl, hb⟩; obtain ⟨hc, hf⟩ := bcell hb; have hB := below_c (w0 := w) (by assumption) hb; have hlt : w.heap.size < w1.heap.size := Nat.lt_of_lt_of_le (by first | assumption | simp) hb.size))
        go_ret
        exact ⟨by rw [hv.out]; rfl, hB⟩
set_option maxRecDepth 100000 in
set_option maxHeartbeats 1000000 in
theorem index_any (K M B : Int) (s : Int) (i : Int) (w : World) :
    Calls Tryz.prog 47 #[.agg #[.int .i64 K, .int .i64 M, .int .i64 B], .int .i64 s, .int .i64 i] w fun e w' => e = .returned (.int .i64 (gIndex K M B s i)) ∧ Below w.heap.size w w' := by
  have hB0 : Below w.heap.size w (w.alloc (.cells #[.int .i64 K, .int .i64 M, .int .i64 B] 23)) := (Below.refl _ _).alloc (Nat.le_refl _) _
  cases h1 : gShard K M B s i
  · have hv : Hid (gIndex K M B s i = -1) := Lib.hid (by unfold gIndex; rw [h1]; rfl)
    go_enter Tryz.func47, Tryz.ntmps47
    go_wp2_with (first | (go_at_call 87; refine (shard_any _ _ _ _ _ _).mono ?_; rintro e w1 ⟨rfl, hb⟩; obtain ⟨hc, hf⟩ := bcell hb; have hB := below_c (w0 := w) (by assumption) hb; have hlt : w.heap.size < w1.heap.size := Nat.lt_of_lt_of_le (by first | assumption | simp) hb.size) | (go_at_call 88; refine (slots_any _ _ _ _).mono ?_; rintro e w1 ⟨rfl, hb⟩; obtain ⟨hc, hf⟩ := bcell hb; have hB := below_c (w0 := w) (by assumption) hb; have hlt : w.heap.size < w1.heap.size := Nat.lt_of_lt_of_le (by first | assumption | simp) hb.size))
    go_ret
    exact ⟨by rw [hv.out]; rfl, hB⟩
  · have hv : Hid (gIndex K M B s i = (i + (K + M) - s % (K + M)) % (K + M)) := Lib.hid (by unfold gIndex; rw [h1]; rfl)
    obtain ⟨x1, x2, x3⟩ := gShard_true h1
    obtain ⟨x4, x5⟩ := slots_pos x1
    have x6 := gHas_true x1
    have x7 := stripes_rng K M B
    obtain ⟨k1, k2, m1, m2, b1, b2⟩ := gR_true x4
    rw [x5] at x3
    have X1 := Lib.hid x1
    have y1 : 0 ≤ s % (K + M) := Int.emod_nonneg _ (by omega)
    have y2 : s % (K + M) < K + M := Int.emod_lt_of_pos _ (by omega)
    clear x1 x4
    go_enter Tryz.func47, Tryz.ntmps47
    go_wp2_with (first | (go_at_call 87; refine (shard_any _ _ _ _ _ _).mono ?_; rintro e w1 ⟨rfl, hb⟩; obtain ⟨hc, hf⟩ := bcell hb; have hB := below_c (w0 := w) (by assumption) hb; have hlt : w.heap.size < w1.heap.size := Nat.lt_of_lt_of_le (by first | assumption | simp) hb.size) | (go_at_call 88; refine (slots_any _ _ _ _).mono ?_; rintro e w1 ⟨rfl, hb⟩; obtain ⟨hc, hf⟩ := bcell hb; have hB := below_c (w0 := w) (by assumption) hb; have hlt : w.heap.size < w1.heap.size := Nat.lt_of_lt_of_le (by first | assumption | simp) hb.size))
    go_ret
    exact ⟨by rw [hv.out]; rfl, hB⟩
set_option maxRecDepth 100000 in
set_option maxHeartbeats 1000000 in
theorem gsector_any (K M B : Int) (s : Int) (w : World) :
    Calls Tryz.prog 46 #[.agg #[.int .i64 K, .int .i64 M, .int .i64 B], .int .i64 s] w fun e w' => e = .returned (.int .i64 (gSector K M B s)) ∧ Below w.heap.size w w' := by
  have hB0 : Below w.heap.size w (w.alloc (.cells #[.int .i64 K, .int .i64 M, .int .i64 B] 23)) := (Below.refl _ _).alloc (Nat.le_refl _) _
  have r1 := shards_rng K M B
  have r2 := stripes_rng K M B
  cases h1 : gHas K M B s
  · have hv : Hid (gSector K M B s = -1) := Lib.hid (by unfold gSector; rw [h1]; rfl)
    go_enter Tryz.func46, Tryz.ntmps46
    go_wp2_with (first | (go_at_call 85; refine (ghas_any _ _ _ _ _).mono ?_; rintro e w1 ⟨rfl, hb⟩; obtain ⟨hc, hf⟩ := bcell hb; have hB := below_c (w0 := w) (by assumption) hb; have hlt : w.heap.size < w1.heap.size := Nat.lt_of_lt_of_le (by first | assumption | simp) hb.size) | (go_at_call 86; refine (shards_any _ _ _ _).mono ?_; rintro e w1 ⟨rfl, hb⟩; obtain ⟨hc, hf⟩ := bcell hb; have hB := below_c (w0 := w) (by assumption) hb; have hlt : w.heap.size < w1.heap.size := Nat.lt_of_lt_of_le (by first | assumption | simp) hb.size))
    go_ret
    exact ⟨by rw [hv.out]; rfl, hB⟩
  · have hv : Hid (gSector K M B s = gShards K M B + s) := Lib.hid (by unfold gSector; rw [h1]; rfl)
    have x6 := gHas_true h1
    go_enter Tryz.func46, Tryz.ntmps46
    go_wp2_with (first | (go_at_call 85; refine (ghas_any _ _ _ _ _).mono ?_; rintro e w1 ⟨rfl, hb⟩; obtain ⟨hc, hf⟩ := bcell hb; have hB := below_c (w0 := w) (by assumption) hb; have hlt : w.heap.size < w1.heap.size := Nat.lt_of_lt_of_le (by first | assumption | simp) hb.size) | (go_at_call 86; refine (shards_any _ _ _ _).mono ?_; rintro e w1 ⟨rfl, hb⟩; obtain ⟨hc, hf⟩ := bcell hb; have hB := below_c (w0 := w) (by assumption) hb; have hlt : w.heap.size < w1.heap.size := Nat.lt_of_lt_of_le (by first | assumption | simp) hb.size))
    go_ret
    exact ⟨by rw [hv.out]; rfl, hB⟩
set_option maxRecDepth 100000 in
set_option maxHeartbeats 1000000 in
theorem rsector_any (K M B : Int) (s : Int) (w : World) :
    Calls Tryz.prog 22 #[.agg #[.int .i64 K, .int .i64 M, .int .i64 B], .int .i64 s] w fun e w' => e = .returned (.int .i64 (gSector K M B s)) ∧ Below w.heap.size w w' := by
  have hB0 : Below w.heap.size w (w.alloc (.cells #[.int .i64 K, .int .i64 M, .int .i64 B] 23)) := (Below.refl _ _).alloc (Nat.le_refl _) _
  have r1 := body_rng K M B
  have r2 := stripes_rng K M B
  cases h1 : gHas K M B s
  · have hv : Hid (gSector K M B s = -1) := Lib.hid (by unfold gSector; rw [h1]; rfl)
    go_enter Tryz.func22, Tryz.ntmps22
    go_wp2_with (first | (go_at_call 63; refine (rhas_any _ _ _ _ _).mono ?_; rintro e w1 ⟨rfl, hb⟩; obtain ⟨hc, hf⟩ := bcell hb; have hB := below_c (w0 := w) (by assumption) hb; have hlt : w.heap.size < w1.heap.size := Nat.lt_of_lt_of_le (by first | assumption | simp) hb.size) | (go_at_call 64; refine (rbody_any _ _ _ _).mono ?_; rintro e w1 ⟨rfl, hb⟩; obtain ⟨hc, hf⟩ := bcell hb; have hB := below_c (w0 := w) (by assumption) hb; have hlt : w.heap.size < w1.heap.size := Nat.lt_of_lt_of_le (by first | assumption | simp) hb.size))
    go_ret
    exact ⟨by rw [hv.out]; rfl, hB⟩
  · have hv : Hid (gSector K M B s = 2 + 2 * (1 + gBody K M B) + s) := Lib.hid (by unfold gSector; rw [h1]; rfl)
    have x6 := gHas_true h1
    go_enter Tryz.func22, Tryz.ntmps22
    go_wp2_with (first | (go_at_call 63; refine (rhas_any _ _ _ _ _).mono ?_; rintro e w1 ⟨rfl, hb⟩; obtain ⟨hc, hf⟩ := bcell hb; have hB := below_c (w0 := w) (by assumption) hb; have hlt : w.heap.size < w1.heap.size := Nat.lt_of_lt_of_le (by first | assumption | simp) hb.size) | (go_at_call 64; refine (rbody_any _ _ _ _).mono ?_; rintro e w1 ⟨rfl, hb⟩; obtain ⟨hc, hf⟩ := bcell hb; have hB := below_c (w0 := w) (by assumption) hb; have hlt : w.heap.size < w1.heap.size := Nat.lt_of_lt_of_le (by first | assumption | simp) hb.size))
    go_ret
    exact ⟨by rw [hv.out]; rfl, hB⟩
end Go.Proofs.YtjgafpkpoppcbaaGreatDoor
end
section
namespace Go.Proofs.YtjgafpkpoppcbaaGreatDoor
open Go.RowKit
theorem turn_spec {n s t : Int} (hn : n = 2 ∨ n = 3 ∨ n = 4 ∨ n = 5 ∨ n = 6 ∨ n = 7) (h0 : 0 ≤ t) (h1 : t < n) :
    0 ≤ (t + n - s % n) % n ∧ (t + n - s % n) % n < n ∧ ((t + n - s % n) % n + s) % n = t := by
  rcases hn with rfl | rfl | rfl | rfl | rfl | rfl <;> omega
theorem turn_once {n s t k : Int} (hn : n = 2 ∨ n = 3 ∨ n = 4 ∨ n = 5 ∨ n = 6 ∨ n = 7) (h0 : 0 ≤ k) (h1 : k < n) (h : (k + s) % n = t) : (t + n - s % n) % n = k := by
  rcases hn with rfl | rfl | rfl | rfl | rfl | rfl <;> omega
theorem gSlot_eq {K M B s i : Int} (h : gHas K M B s = true) (h0 : 0 ≤ i) (h1 : i < K + M) : gSlot K M B s i = (i + s) % (K + M) := by
  have hs := (slots_pos h).2
  unfold gSlot
  rw [if_pos (by simp [gShard, h]; omega)]
theorem gIndex_yes {K M B s t : Int} (h : gHas K M B s = true) (h0 : 0 ≤ t) (h1 : t < K + M) : gIndex K M B s t = (t + (K + M) - s % (K + M)) % (K + M) := by
  have hs := (slots_pos h).2
  unfold gIndex
  rw [if_pos (by simp [gShard, h]; omega)]
theorem gIndex_no {K M B s t : Int} (h : gHas K M B s = true) (h0 : ¬ (0 ≤ t ∧ t < K + M)) : gIndex K M B s t = -1 := by
  have hs := (slots_pos h).2
  unfold gIndex
  rw [if_neg (by simp [gShard, h]; omega)]
set_option maxRecDepth 100000 in
set_option maxHeartbeats 1000000 in
theorem rindex_any (K M B : Int) (s : Int) (t : Int) (w : World) :
    Calls Tryz.prog 51 #[.agg #[.int .i64 K, .int .i64 M, .int .i64 B], .int .i64 s, .int .i64 t] w fun e w' => e = .returned (.int .i64 (gIndex K M B s t)) ∧ Below w.heap.size w w' := by
  have hB0 : Below w.heap.size w (w.alloc (.cells #[.int .i64 K, .int .i64 M, .int .i64 B] 23)) := (Below.refl _ _).alloc (Nat.le_refl _) _
  cases h1 : gHas K M B s
  · have hv : Hid (gIndex K M B s t = -1) := Lib.hid (by unfold gIndex gShard; rw [h1]; rfl)
    go_enter Tryz.func51, Tryz.ntmps51
    go_wp2_with (first | (go_at_call 63; refine (rhas_any _ _ _ _ _).mono ?_; rintro e w1 ⟨rfl, hb⟩; obtain ⟨hc, hf⟩ := bcell hb; have hB := below_c (w0 := w) (by assumption) hb; have hlt : w.heap.size < w1.heap.size := Nat.lt_of_lt_of_le (by first | assumption | simp) hb.size))
    go_ret
    exact ⟨by rw [hv.out]; rfl, hB⟩
  · obtain ⟨x4, x5⟩ := slots_pos h1
    obtain ⟨k1, k2, m1, m2, b1, b2⟩ := gR_true x4
    have HS := Lib.hid h1
    have X5 := Lib.hid x5
    clear x4
    go_enter Tryz.func51, Tryz.ntmps51
    go_wp2_with (first | (go_at_call 63; refine (rhas_any _ _ _ _ _).mono ?_; rintro e w1 ⟨rfl, hb⟩; obtain ⟨hc, hf⟩ := bcell hb; have hB := below_c (w0 := w) (by assumption) hb; have hlt : w.heap.size < w1.heap.size := Nat.lt_of_lt_of_le (by first | assumption | simp) hb.size))
    go_loopw [8] (fun i wr => ∃ k : Int, 0 ≤ k ∧ k ≤ K + M ∧ i = .int .i64 k ∧ Hid (∀ j, 0 ≤ j → j < k → (j + s) % (K + M) ≠ t) ∧ Below w.heap.size w wr ∧ w.heap.size < wr.heap.size ∧ wr.cell? ⟨w.heap.size, 0, none⟩ = some (.int .i64 K) ∧ wr.cell? ⟨w.heap.size, 1, none⟩ = some (.int .i64 M) ∧ wr.cell? ⟨w.heap.size, 2, none⟩ = some (.int .i64 B)) (fun i _ => (K + M - RowKit.intOf i).toNat)
    case atStart => exact ⟨0, by omega, by omega, rfl, Lib.hid (fun j h0 h1 => by omega), hB, hlt, by rw [hc _ _ (by simp)]; simp, by rw [hc _ _ (by simp)]; simp, by rw [hc _ _ (by simp)]; simp⟩
    case round =>
      clear hc hf hB hlt hb hB0
      obtain ⟨k, hk0, hk, rfl, hno, hB, hlt, c0, c1, c2⟩ := hrel
      by_cases hk2 : k < K + M
      · have hsl := gSlot_eq (B := B) HS.out hk0 hk2
        by_cases he : (k + s) % (K + M) = t
        · have tt : (gSlot K M B s k == t) = true := by rw [hsl, he]; simp
          have hv : Hid (gIndex K M B s t = k) := Lib.hid (by
            have h0 : 0 ≤ t := by rw [← he]; exact Int.emod_nonneg _ (by omega)
            have h1 : t < K + M := by rw [← he]; exact Int.emod_lt_of_pos _ (by omega)
            rw [gIndex_yes HS.out h0 h1, turn_once (by omega) hk0 hk2 he])
          clear hsl he
          go_wp2_with (first | (go_at_call 38; refine (rslots_any _ _ _ _).mono ?_; rintro e w1 ⟨rfl, hb⟩; obtain ⟨hc, hf⟩ := bcell hb; have hB := below_c (w0 := w) (by assumption) hb; have hlt : w.heap.size < w1.heap.size := Nat.lt_of_lt_of_le (by first | assumption | simp) hb.size) | (go_at_call 95; refine (rslot_any _ _ _ _ _ _).mono ?_; rintro e w1 ⟨rfl, hb⟩; obtain ⟨hc, hf⟩ := bcell hb; have hB := below_c (w0 := w) (by assumption) hb; have hlt : w.heap.size < w1.heap.size := Nat.lt_of_lt_of_le (by first | assumption | simp) hb.size))
          go_ret
          exact ⟨by rw [hv.out]; rfl, hB⟩
        · have tt : (gSlot K M B s k == t) = false := by rw [hsl, beq_eq_false_iff_ne]; exact he
          have hno2 : Hid (∀ j, 0 ≤ j → j < k + 1 → (j + s) % (K + M) ≠ t) := Lib.hid (fun j h0 h1 => by
            by_cases e : j = k
            · rw [e]; exact he
            · exact hno.out j h0 (by omega))
          clear hsl he
          go_wp2_with (first | (go_at_call 38; refine (rslots_any _ _ _ _).mono ?_; rintro e w1 ⟨rfl, hb⟩; obtain ⟨hc, hf⟩ := bcell hb; have hB := below_c (w0 := w) (by assumption) hb; have hlt : w.heap.size < w1.heap.size := Nat.lt_of_lt_of_le (by first | assumption | simp) hb.size) | (go_at_call 95; refine (rslot_any _ _ _ _ _ _).mono ?_; rintro e w1 ⟨rfl, hb⟩; obtain ⟨hc, hf⟩ := bcell hb; have hB := below_c (w0 := w) (by assumption) hb; have hlt : w.heap.size < w1.heap.size := Nat.lt_of_lt_of_le (by first | assumption | simp) hb.size))
          go_roundw
          case rel => exact ⟨k + 1, by omega, by omega, rfl, hno2, hB, hlt, by simp [*], by simp [*], by simp [*]⟩
          case measure => simp [RowKit.intOf]; omega
      · have hv : Hid (gIndex K M B s t = -1) := Lib.hid (gIndex_no HS.out (fun ⟨h0, h1⟩ => by
          have q := turn_spec (n := K + M) (s := s) (t := t) (by omega) h0 h1
          exact hno.out _ q.1 (by omega) q.2.2))
        go_wp2_with (first | (go_at_call 38; refine (rslots_any _ _ _ _).mono ?_; rintro e w1 ⟨rfl, hb⟩; obtain ⟨hc, hf⟩ := bcell hb; have hB := below_c (w0 := w) (by assumption) hb; have hlt : w.heap.size < w1.heap.size := Nat.lt_of_lt_of_le (by first | assumption | simp) hb.size) | (go_at_call 95; refine (rslot_any _ _ _ _ _ _).mono ?_; rintro e w1 ⟨rfl, hb⟩; obtain ⟨hc, hf⟩ := bcell hb; have hB := below_c (w0 := w) (by assumption) hb; have hlt : w.heap.size < w1.heap.size := Nat.lt_of_lt_of_le (by first | assumption | simp) hb.size))
        go_ret
        exact ⟨by rw [hv.out]; rfl, hB⟩
end Go.Proofs.YtjgafpkpoppcbaaGreatDoor
end
section
namespace Go.Proofs.YtjgafpkpoppcbaaGreatDoor
open Go.RowKit
attribute [local go_sem ↓] Go.wp_at_zero Go.wp_at_succ
structure Boxes (w : World) (x : Nat) (K M B : Int) : Prop where
  k : w.cell? ⟨x, 0, none⟩ = some (.int .i64 K)
  m : w.cell? ⟨x, 1, none⟩ = some (.int .i64 M)
  b : w.cell? ⟨x, 2, none⟩ = some (.int .i64 B)
  r0 : w.cell? ⟨x + 1, 0, none⟩ = some (.int .i64 0)
  r1 : w.cell? ⟨x + 1, 1, none⟩ = some (.int .i64 0)
  r2 : w.cell? ⟨x + 1, 2, none⟩ = some (.int .i64 0)
  r3 : w.cell? ⟨x + 1, 3, none⟩ = some (.int .i64 0)
  f : ∀ i, w.frozen? ⟨x + 1, i, none⟩ = false
  lt : x + 1 < w.heap.size
theorem Boxes.below {w w' : World} {b : Nat} {K M B : Int} (h : Boxes w b K M B) (hb : Below w.heap.size w w') : Boxes w' b K M B := by
  obtain ⟨hc, hf⟩ := bcell hb
  have := h.lt
  exact ⟨by rw [hc _ _ (by omega)]; exact h.k, by rw [hc _ _ (by omega)]; exact h.m, by rw [hc _ _ (by omega)]; exact h.b, by rw [hc _ _ (by omega)]; exact h.r0, by rw [hc _ _ (by omega)]; exact h.r1,
    by rw [hc _ _ (by omega)]; exact h.r2, by rw [hc _ _ (by omega)]; exact h.r3, fun i => by rw [hf _ _ (by omega)]; exact h.f i, Nat.lt_of_lt_of_le h.lt hb.size⟩
theorem Boxes.drewN {w : World} {b : Nat} {K M B : Int} (h : Boxes w b K M B) (n : Nat) : Boxes (w.drewN n) b K M B := ⟨h.k, h.m, h.b, h.r0, h.r1, h.r2, h.r3, h.f, h.lt⟩
theorem Boxes.drew {w : World} {b : Nat} {K M B : Int} (h : Boxes w b K M B) : Boxes w.drew b K M B := ⟨h.k, h.m, h.b, h.r0, h.r1, h.r2, h.r3, h.f, h.lt⟩
end Go.Proofs.YtjgafpkpoppcbaaGreatDoor
end
section
namespace Go.Proofs.YtjgafpkpoppcbaaGreatDoor
theorem k_cases {k m B : Int} (hR : gR k m B = true) : (k = 1 ∨ k = 2 ∨ k = 3 ∨ k = 4) ∧ (m = 1 ∨ m = 2 ∨ m = 3) ∧ 8 ≤ B ∧ B ≤ 200 := by
  obtain ⟨k1, k2, m1, m2, b1, b2⟩ := gR_true hR
  exact ⟨by omega, by omega, b1, b2⟩
theorem stripes_eq {k m B : Int} (hR : gR k m B = true) : gStripes k m B = (B + k - 1) / k := by unfold gStripes; rw [hR, if_pos rfl]
theorem slots_eq {k m B : Int} (hR : gR k m B = true) : gSlots k m B = k + m := by unfold gSlots; rw [hR, if_pos rfl]
theorem body_eq {k m B : Int} (hR : gR k m B = true) : gBody k m B = 16 * k := by unfold gBody; rw [hR, if_pos rfl]
theorem sectors_eq {k m B : Int} (hR : gR k m B = true) : gSectors k m B = 2 + 2 * (1 + 16 * k) + (B + k - 1) / k := by unfold gSectors; rw [hR, if_pos rfl]
theorem has_eq {k m B s : Int} (h0 : 0 ≤ s) (h1 : s < gStripes k m B) : gHas k m B s = true := by simp [gHas, h0, h1]
theorem shard_eq {k m B s i : Int} (h0 : 0 ≤ s) (h1 : s < gStripes k m B) (h2 : 0 ≤ i) (h3 : i < gSlots k m B) : gShard k m B s i = true := by simp [gShard, has_eq h0 h1, h2, h3]
theorem index_eq {k m B s i : Int} (h0 : 0 ≤ s) (h1 : s < gStripes k m B) (h2 : 0 ≤ i) (h3 : i < gSlots k m B) : gIndex k m B s i = (i + (k + m) - s % (k + m)) % (k + m) := by unfold gIndex; rw [shard_eq h0 h1 h2 h3]; rfl
theorem sector_eq {k m B s : Int} (hR : gR k m B = true) (h0 : 0 ≤ s) (h1 : s < gStripes k m B) : gSector k m B s = 4 + 32 * k + s := by
  unfold gSector; rw [has_eq h0 h1, if_pos rfl]; unfold gShards; rw [body_eq hR]; omega
theorem div_lt {k m B A : Int} (hR : gR k m B = true) (h0 : 0 ≤ A) (h1 : A < B) : 0 ≤ A / k ∧ A / k < (B + k - 1) / k ∧ 0 ≤ A % k ∧ A % k < k ∧ A / k * k + A % k = A := by
  obtain ⟨hk, hm, hb⟩ := k_cases hR
  rcases hk with rfl | rfl | rfl | rfl <;> omega
end Go.Proofs.YtjgafpkpoppcbaaGreatDoor
end
