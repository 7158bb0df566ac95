/- command: what the table of fields says; small calls. -/
import Derived.Test.YtjbekphjhmlloaaDoorRdText
import Derived.Laws.StructEq
import Derived.WalkLawsBesides
namespace Go.Proofs.YtjbekphjhmlloaaDoor
open Go.RowKit
set_option linter.unusedVariables false
set_option linter.unusedSimpArgs false

/-- Which fields an op has, by their numbers. -/
def rowOf : Nat → List Nat
  | 1 => [1, 4, 0] | 4 => [1, 4, 0] | 2 => [1, 0, 0] | 3 => [1, 2, 0] | 5 => [1, 3, 5] | 6 => [1, 3, 4] | 7 => [1, 3, 4] | _ => [0, 0, 0]
theorem row_form (i : Nat) : ∃ x y z, rowOf i = [x, y, z] ∧ x ≤ 5 ∧ y ≤ 5 ∧ z ≤ 5 := by
  unfold rowOf; split <;> exact ⟨_, _, _, rfl, by decide, by decide, by decide⟩
theorem row_nth (i k : Nat) (hk : k < 3) : (rowOf i).getD k 0 ≤ 5 ∧ (rowOf i).take (k + 1) = (rowOf i).take k ++ [(rowOf i).getD k 0] := by
  obtain ⟨x, y, z, h, h1, h2, h3⟩ := row_form i
  rw [h]
  rcases (by omega : k = 0 ∨ k = 1 ∨ k = 2) with rfl | rfl | rfl
  · exact ⟨h1, rfl⟩
  · exact ⟨h2, rfl⟩
  · exact ⟨h3, rfl⟩
structure Flds (w : World) : Prop where
  c : ∀ i j : Nat, i < 10 → j < 3 → w.cell? ⟨0, i * 3 + j, none⟩ = some (.int .i64 (((rowOf i).getD j 0 : Nat) : Int))
  lt : 0 < w.heap.size
theorem Flds.below {w w' : World} (h : Flds w) (hb : Below w.heap.size w w') : Flds w' :=
  ⟨fun i j h1 h2 => by rw [hb.cell (p := ⟨0, i * 3 + j, none⟩) h.lt]; exact h.c i j h1 h2, Nat.lt_of_lt_of_le h.lt hb.size⟩
theorem Flds.keep {w w' : World} {B : Nat} (h : Flds w) (hb : Below B w w') (hB : 0 < B) : Flds w' :=
  ⟨fun i j h1 h2 => by rw [hb.cell (p := ⟨0, i * 3 + j, none⟩) hB]; exact h.c i j h1 h2, Nat.lt_of_lt_of_le h.lt hb.size⟩
def isOpB (op : Int) : Bool := decide (1 ≤ op ∧ op ≤ 9)
theorem isop_any (op : Int) (w : World) : Calls Tryd.prog 27 #[.int .i64 op] w fun e w' => e = .returned (.bool (isOpB op)) ∧ w = w' := by
  by_cases h1 : 1 ≤ op
  · have t1 : decide (1 ≤ op) = true := decide_eq_true h1
    have hz : Hid (isOpB op = decide (op ≤ 9)) := Lib.hid (by unfold isOpB; rw [Bool.decide_and, t1, Bool.true_and])
    clear h1
    go_enter Tryd.func27, Tryd.ntmps27
    go_wp2
    go_ret
    exact ⟨by rw [hz.out]; rfl, rfl⟩
  · have t1 : decide (1 ≤ op) = false := decide_eq_false h1
    have hz : Hid (isOpB op = false) := Lib.hid (by unfold isOpB; rw [Bool.decide_and, t1, Bool.false_and])
    clear h1
    go_enter Tryd.func27, Tryd.ntmps27
    go_wp2
    go_ret
    exact ⟨by rw [hz.out]; rfl, rfl⟩
def isCntB (n : Int) : Bool := decide (0 ≤ n ∧ n ≤ 1099511627776)
theorem iscount_any (n : Int) (w : World) : Calls Tryd.prog 34 #[.int .i64 n] w fun e w' => e = .returned (.bool (isCntB n)) ∧ w = w' := by
  by_cases h1 : 0 ≤ n
  · have t1 : decide (0 ≤ n) = true := decide_eq_true h1
    have hz : Hid (isCntB n = decide (n ≤ 1099511627776)) := Lib.hid (by unfold isCntB; rw [Bool.decide_and, t1, Bool.true_and])
    clear h1
    go_enter Tryd.func34, Tryd.ntmps34
    go_wp2
    go_ret
    exact ⟨by rw [hz.out]; rfl, rfl⟩
  · have t1 : decide (0 ≤ n) = false := decide_eq_false h1
    have hz : Hid (isCntB n = false) := Lib.hid (by unfold isCntB; rw [Bool.decide_and, t1, Bool.false_and])
    clear h1
    go_enter Tryd.func34, Tryd.ntmps34
    go_wp2
    go_ret
    exact ⟨by rw [hz.out]; rfl, rfl⟩
/-- What of a field is kept behind k fields. -/
def kS (r : List Nat) (f : Nat) (s : ByteArray) : ByteArray := if f ∈ r then s else ⟨#[]⟩
def kI (r : List Nat) (f : Nat) (n : Int) : Int := if f ∈ r then n else 0
def Cells6 (w : World) (b : Nat) (op : Int) (n o : ByteArray) (a c : Int) (d : ByteArray) : Prop :=
  w.heap[b]? = some (.cells #[.int .i64 op, .string n, .string o, .int .i64 a, .int .i64 c, .string d] 23 (0, 0))
set_option maxRecDepth 100000 in
set_option maxHeartbeats 4000000 in
theorem used_any (i : Nat) (h1 : 1 ≤ i) (h9 : i ≤ 9) (n o : ByteArray) (a c : Int) (d : ByteArray) (w : World) (hF : Flds w) :
    Calls Tryd.prog 35 #[.agg #[.int .i64 (i : Int), .string n, .string o, .int .i64 a, .int .i64 c, .string d]] w fun e w' =>
      e = .returned (.agg #[.int .i64 (i : Int), .string (kS (rowOf i) 1 n), .string (kS (rowOf i) 2 o), .int .i64 (kI (rowOf i) 3 a), .int .i64 (kI (rowOf i) 4 c), .string (kS (rowOf i) 5 d)]) ∧ Below w.heap.size w w' := by
  obtain ⟨x, y, z, hr, hx, hy, hz⟩ := row_form i
  have c0 := hF.c i 0 (by omega) (by omega)
  have c1 := hF.c i 1 (by omega) (by omega)
  have c2 := hF.c i 2 (by omega) (by omega)
  have hlt := hF.lt
  have hn := row_nth i
  rw [hr] at c0 c1 c2
  simp only [Nat.add_zero, List.getD_cons_zero, List.getD_cons_succ] at c0 c1 c2
  have hidx : ∀ k : Nat, k < 3 → ∀ W, (Instr.index 42 (.agg #[.int .i64 (x : Int), .int .i64 (y : Int), .int .i64 (z : Int)]) (.int .i64 (k : Int))).run Tryd.prog W = .ok (.int .i64 (((rowOf i).getD k 0 : Nat) : Int)) W := by
    intro k hk W
    rw [hr]
    rcases (by omega : k = 0 ∨ k = 1 ∨ k = 2) with rfl | rfl | rfl <;> kernel_rfl
  clear hr
  go_enter Tryd.func35, Tryd.ntmps35
  go_wp2_with (fail)
  go_loopw [13] (fun t wr => ∃ k : Nat, k ≤ 3 ∧ t = .int .i64 (k : Int) ∧ wr = ((w.alloc (.cells #[.int .i64 (i : Int), .string n, .string o, .int .i64 a, .int .i64 c, .string d] 23)).alloc (.cells #[.int .i64 0, .string ⟨#[]⟩, .string ⟨#[]⟩, .int .i64 0, .int .i64 0, .string ⟨#[]⟩] 23)).alloc (.cells #[.int .i64 (i : Int), .string (kS ((rowOf i).take k) 1 n), .string (kS ((rowOf i).take k) 2 o), .int .i64 (kI ((rowOf i).take k) 3 a), .int .i64 (kI ((rowOf i).take k) 4 c), .string (kS ((rowOf i).take k) 5 d)] 23)) (fun t _ => 3 - (intOf t).toNat)
  case atStart => exact ⟨0, by omega, rfl, by simp [kS, kI]⟩
  case round =>
    obtain ⟨k, hk, rfl, rfl⟩ := hrel
    by_cases hk3 : k < 3
    · have t3 : (k : Int) < 3 := by omega
      have hi := hidx k hk3
      have hf := (hn k hk3).1
      have HS := Lib.hid (hn k hk3).2
      clear hidx hn hk3
      generalize (rowOf i).getD k 0 = f at *
      generalize (rowOf i).take k = l at *
      rcases (by omega : f = 0 ∨ f = 1 ∨ f = 2 ∨ f = 3 ∨ f = 4 ∨ f = 5) with rfl | rfl | rfl | rfl | rfl | rfl
      all_goals
        go_wp2_with (fail)
        go_roundw
        case rel => exact ⟨k + 1, by omega, by go_num, by rw [HS.out]; simp [kS, kI]⟩
        case measure => simp [intOf]; omega
    · obtain rfl : k = 3 := by omega
      have hl : (rowOf i).take 3 = rowOf i := by obtain ⟨x, y, z, h, _⟩ := row_form i; rw [h]; rfl
      rw [hl]
      clear hl hidx hn hF
      go_wp2_with (fail)
      exact bodyPost_ret (v := .agg #[.int .i64 (i : Int), .string (kS (rowOf i) 1 n), .string (kS (rowOf i) 2 o), .int .i64 (kI (rowOf i) 3 a), .int .i64 (kI (rowOf i) 4 c), .string (kS (rowOf i) 5 d)]) (by simp [results, Tryd.results35, go_sem]) rfl ⟨rfl, (((Below.refl _ _).alloc (Nat.le_refl _) _).alloc (by simp) _).alloc (by simp; omega) _⟩
end Go.Proofs.YtjbekphjhmlloaaDoor
