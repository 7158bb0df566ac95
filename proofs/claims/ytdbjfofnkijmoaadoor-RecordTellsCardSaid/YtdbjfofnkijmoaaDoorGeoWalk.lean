/- The calls of geo, walked. -/
import Derived.Test.YtdbjfofnkijmoaaDoorRows
import Derived.Tactics
import Derived.Tactics2
import Derived.WalkKit
import Derived.LoopTactic
import Derived.ChangeAlike
import Derived.RegionTactic
import Derived.Outline
import Derived.Lib.Hide
import Derived.Below
import Derived.BigQuiet
import Derived.Deep.QuietTactic
import Derived.Deep.RegionHeld3
import Derived.WalkLawsBesides
import Derived.Laws.StructEq
import Derived.Test.YtdbjfofnkijmoaaDoorCls
namespace Go.Proofs.YtdbjfofnkijmoaaDoor
open Go.RowKit
set_option linter.unusedVariables false
set_option linter.unusedSimpArgs false

theorem eql_geo (w : World) (a b c a' b' c' : Int) :
    (Op.equalIn 10000 23 (.agg #[.int .i64 a, .int .i64 b, .int .i64 c]) (.agg #[.int .i64 a', .int .i64 b', .int .i64 c'])).run Tryd.prog w = .ok (a == a' && b == b' && c == c') w := by
  have hS : Tryd.prog.underlying 23 = some (.struct (Tryd.prog.fieldsOf 23)) := by kernel_rfl
  have hp : Tryd.prog.stoodInHeld 23 = false := by kernel_rfl
  rw [show (10000 : Nat) = 9999 + 1 from rfl, run_equalIn_agg w 9999 23 _ _ hS hp]
  simp only [Program.fieldsOf, Tryd.underlying23]
  go_simp
  by_cases ha : a = a' <;> by_cases hb : b = b' <;> by_cases hc : c = c' <;> simp [ha, hb, hc]
theorem eql_geo_guard : Tryd.prog.eqGuardType Tryd.prog.depth 23 = false := by kernel_rfl
/-- A geometry that is right. -/
def gR (K M B : Int) : Bool := decide (1 ≤ K ∧ K ≤ 4 ∧ 1 ≤ M ∧ M ≤ 3 ∧ 8 ≤ B ∧ B ≤ 200)
theorem gR_true {K M B : Int} (h : gR K M B = true) : 1 ≤ K ∧ K ≤ 4 ∧ 1 ≤ M ∧ M ≤ 3 ∧ 8 ≤ B ∧ B ≤ 200 := by simpa [gR] using h
theorem gR_mk {K M B : Int} (h : 1 ≤ K ∧ K ≤ 4 ∧ 1 ≤ M ∧ M ≤ 3 ∧ 8 ≤ B ∧ B ≤ 200) : gR K M B = true := by simpa [gR] using h
def cl (x a b : Int) : Int := min (max x a) b

theorem cl_eq (K M B : Int) : gR K M B = (K == cl K 1 4 && M == cl M 1 3 && B == cl B 8 200) := by
  rw [Bool.eq_iff_iff]; simp only [gR, cl, Bool.and_eq_true, beq_iff_eq, decide_eq_true_eq]; omega
set_option maxRecDepth 100000 in
set_option maxHeartbeats 2000000 in
theorem bounded_any (K M B : Int) (w : World) :
    Calls Tryd.prog 69 #[.agg #[.int .i64 K, .int .i64 M, .int .i64 B]] w fun e w' => e = .returned (.agg #[.int .i64 (cl K 1 4), .int .i64 (cl M 1 3), .int .i64 (cl B 8 200)]) ∧ Below w.heap.size w w' := by
  go_enter Tryd.func69, Tryd.ntmps69
  go_wp2
  all_goals
    refine bodyPost_ret (v := .agg #[.int .i64 (cl K 1 4), .int .i64 (cl M 1 3), .int .i64 (cl B 8 200)]) ?_ rfl ⟨rfl, ((Below.refl _ _).alloc (Nat.le_refl _) _).alloc (by simp) _⟩
    simp only [cl, results, Tryd.results69]
    simp [go_sem]
    omega
theorem box_below {w w1 : World} {o : Obj} (hb : Below (w.alloc o).heap.size (w.alloc o) w1) : Below w.heap.size w w1 :=
  ((Below.refl _ _).alloc (Nat.le_refl _) _).trans (hb.mono (by simp))
theorem box3 {w wb : World} {T : TypeId} {a b c : Value} (h : w.alloc (.cells #[a, b, c] T) = wb) {Z : Type} {f : Z → World} (hD : ∀ z, Below wb.heap.size wb (f z)) :
    (∀ z, (f z).cell? ⟨w.heap.size, 0, none⟩ = some a) ∧ (∀ z, (f z).cell? ⟨w.heap.size, 1, none⟩ = some b) ∧ (∀ z, (f z).cell? ⟨w.heap.size, 2, none⟩ = some c) := by
  subst h
  have hz := clsCell hD
  exact ⟨fun z => by rw [hz z _ _ (by simp)]; simp, fun z => by rw [hz z _ _ (by simp)]; simp, fun z => by rw [hz z _ _ (by simp)]; simp⟩
set_option maxRecDepth 100000 in
theorem right_any (K M B : Int) (w : World) :
    Calls Tryd.prog 59 #[.agg #[.int .i64 K, .int .i64 M, .int .i64 B]] w fun e w' => e = .returned (.bool (gR K M B)) ∧ Below w.heap.size w w' := by
  rw [cl_eq]
  go_enter Tryd.func59, Tryd.ntmps59
  go_wp2
  have hbb : Below w.heap.size w (w.alloc (.cells #[.int .i64 K, .int .i64 M, .int .i64 B] 23)) := (Below.refl _ _).alloc (Nat.le_refl _) _
  generalize hwb : w.alloc (.cells #[.int .i64 K, .int .i64 M, .int .i64 B] 23) = wb at *
  refine wp_region_cls (Below wb.heap.size wb) (by kernel_rfl) (by kernel_rfl) (Below.refl _ _).drew ?_
  intro Z f hne hD hE
  obtain ⟨b0, b1, b2⟩ := box3 hwb hD
  have hq := fun w => eql_geo w K M B (cl K 1 4) (cl M 1 3) (cl B 8 200)
  have hg := eql_geo_guard
  clear hwb
  repeat (go_big_quiet_step ((go_at_call 69; exact toQB hD hE _ (bounded_any _ _ _ _))))
  refine wpQuiet_nil ?_
  intro _ hw'
  obtain ⟨zq, hw''⟩ := hw'
  subst hw''
  have hz := hD zq
  go_wp2
  go_ret
  exact ⟨rfl, hbb.trans (hz.mono hbb.size)⟩

def gSlots (K M B : Int) : Int := if gR K M B then K + M else 0
def gStripes (K M B : Int) : Int := if gR K M B then (B + K - 1) / K else 0
def gBody (K M B : Int) : Int := if gR K M B then 16 * K else 0
def gSectors (K M B : Int) : Int := if gR K M B then 2 + 2 * (1 + 16 * K) + (B + K - 1) / K else 0
theorem div_rng {K B : Int} (h : 1 ≤ K ∧ K ≤ 4) (hB : 8 ≤ B ∧ B ≤ 200) : 1 ≤ (B + K - 1) / K ∧ (B + K - 1) / K ≤ 200 := by
  obtain ⟨h1, h2⟩ := h
  rcases (by omega : K = 1 ∨ K = 2 ∨ K = 3 ∨ K = 4) with rfl | rfl | rfl | rfl <;> omega
theorem slots_rng (K M B : Int) : 0 ≤ gSlots K M B ∧ gSlots K M B ≤ 7 := by
  unfold gSlots
  cases h : gR K M B
  · simp
  · have := gR_true h; simp; omega
theorem stripes_rng (K M B : Int) : 0 ≤ gStripes K M B ∧ gStripes K M B ≤ 200 := by
  unfold gStripes
  cases h : gR K M B
  · simp
  · have := gR_true h
    have := div_rng (K := K) (B := B) (by omega) (by omega)
    simp; omega
theorem body_rng (K M B : Int) : 0 ≤ gBody K M B ∧ gBody K M B ≤ 64 := by
  unfold gBody
  cases h : gR K M B
  · simp
  · have := gR_true h; simp; omega
set_option maxRecDepth 100000 in
theorem stripes_any (K M B : Int) (w : World) :
    Calls Tryd.prog 60 #[.agg #[.int .i64 K, .int .i64 M, .int .i64 B]] w fun e w' => e = .returned (.int .i64 (gStripes K M B)) ∧ Below w.heap.size w w' := by
  cases hR : gR K M B
  · have hv : Hid (gStripes K M B = 0) := Lib.hid (by unfold gStripes; rw [hR]; rfl)
    go_enter Tryd.func60, Tryd.ntmps60
    go_wp2_with (first | (go_at_call 59; refine (right_any _ _ _ _).mono ?_; rintro e w1 ⟨rfl, hb⟩; obtain ⟨hc, hf⟩ := bcell hb))
    go_ret
    exact ⟨by rw [hv.out]; rfl, box_below hb⟩
  · obtain ⟨k1, k2, m1, m2, b1, b2⟩ := gR_true hR
    have hv : Hid (gStripes K M B = (B + K - 1) / K) := Lib.hid (by unfold gStripes; rw [hR]; rfl)
    go_enter Tryd.func60, Tryd.ntmps60
    go_wp2_with (first | (go_at_call 59; refine (right_any _ _ _ _).mono ?_; rintro e w1 ⟨rfl, hb⟩; obtain ⟨hc, hf⟩ := bcell hb))
    go_ret
    exact ⟨by rw [hv.out]; rfl, box_below hb⟩
theorem rright_any (K M B : Int) (w : World) :
    Calls Tryd.prog 34 #[.agg #[.int .i64 K, .int .i64 M, .int .i64 B]] w fun e w' => e = .returned (.bool (gR K M B)) ∧ Below w.heap.size w w' := by
  by_cases k1 : 1 ≤ K
  · by_cases k2 : K ≤ 4
    · by_cases m1 : 1 ≤ M
      · by_cases m2 : M ≤ 3
        · by_cases b1 : 8 ≤ B
          · by_cases b2 : B ≤ 200
            · rw [gR_mk ⟨k1, k2, m1, m2, b1, b2⟩]
              go_enter Tryd.func34, Tryd.ntmps34
              go_wp2
              go_ret
              exact ⟨rfl, (Below.refl _ _).alloc (Nat.le_refl _) _⟩
            all_goals skip
            · rw [show gR K M B = false by simp [gR]; omega]
              go_enter Tryd.func34, Tryd.ntmps34
              go_wp2
              go_ret
              exact ⟨rfl, (Below.refl _ _).alloc (Nat.le_refl _) _⟩
          all_goals skip
          · rw [show gR K M B = false by simp [gR]; omega]
            go_enter Tryd.func34, Tryd.ntmps34
            go_wp2
            go_ret
            exact ⟨rfl, (Below.refl _ _).alloc (Nat.le_refl _) _⟩
        all_goals skip
        · rw [show gR K M B = false by simp [gR]; omega]
          go_enter Tryd.func34, Tryd.ntmps34
          go_wp2
          go_ret
          exact ⟨rfl, (Below.refl _ _).alloc (Nat.le_refl _) _⟩
      all_goals skip
      · rw [show gR K M B = false by simp [gR]; omega]
        go_enter Tryd.func34, Tryd.ntmps34
        go_wp2
        go_ret
        exact ⟨rfl, (Below.refl _ _).alloc (Nat.le_refl _) _⟩
    all_goals skip
    · rw [show gR K M B = false by simp [gR]; omega]
      go_enter Tryd.func34, Tryd.ntmps34
      go_wp2
      go_ret
      exact ⟨rfl, (Below.refl _ _).alloc (Nat.le_refl _) _⟩
  all_goals skip
  · rw [show gR K M B = false by simp [gR]; omega]
    go_enter Tryd.func34, Tryd.ntmps34
    go_wp2
    go_ret
    exact ⟨rfl, (Below.refl _ _).alloc (Nat.le_refl _) _⟩
end Go.Proofs.YtdbjfofnkijmoaaDoor
