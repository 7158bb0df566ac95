/- count: a table in memory. -/
import Derived.Test.YtlbjfigdocbffaaBytes
import Derived.Test.YtlbjfigdocbffaaCls
import Derived.Test.YtlbjfigdocbffaaSl2
import Derived.Test.YtlbjfigdocbffaaOwn
import Derived.Tactics
import Derived.Tactics2
import Derived.LoopTactic
import Derived.RegionTactic
import Derived.Outline
import Derived.Deep.RegionWith
import Derived.Deep.MidRow
import Derived.Deep.WholeRow
namespace Go.Proofs.Ytlbjfigdocbffaa
open Go.RowKit
set_option linter.unusedVariables false
set_option linter.unusedSimpArgs false

/-- What a table's block holds: how many blocks, and 240 counts. -/
def tcl (n : Nat) (C : Nat → Nat) : List Value := .int .i64 (n : Int) :: (List.range 240).map fun i => .int .u8 ((C i : Nat) : Int)
def tcs (n : Nat) (C : Nat → Nat) : Array Value := (tcl n C).toArray
def upd (C : Nat → Nat) (i v : Nat) : Nat → Nat := fun j => if j = i then v else C j
theorem tcl_len (n : Nat) (C : Nat → Nat) : (tcl n C).length = 241 := by simp [tcl]
theorem tcs_size (n : Nat) (C : Nat → Nat) : (tcs n C).size = 241 := by simp [tcs, tcl_len]
theorem tcs_zero (n : Nat) (C : Nat → Nat) : (tcs n C)[0]? = some (.int .i64 (n : Int)) := by simp [tcs, tcl]
theorem tcs_succ (n : Nat) (C : Nat → Nat) (i : Nat) (h : i < 240) : (tcs n C)[1 + i]? = some (.int .u8 ((C i : Nat) : Int)) := by
  rw [Nat.add_comm]
  simp [tcs, tcl, h]
theorem tcs_set (n : Nat) (C : Nat → Nat) (i v : Nat) (h : i < 240) : (tcs n C).setIfInBounds (1 + i) (.int .u8 (v : Int)) = tcs n (upd C i v) := by
  apply Array.ext_getElem?
  intro k
  rw [Array.getElem?_setIfInBounds]
  by_cases hk : 1 + i = k
  · subst hk
    rw [if_pos rfl, if_pos (by rw [tcs_size]; omega), tcs_succ _ _ _ h, upd, if_pos rfl]
  · rw [if_neg hk]
    cases k with
    | zero => rw [tcs_zero, tcs_zero]
    | succ k =>
      by_cases hl : k < 240
      · rw [Nat.add_comm k 1, tcs_succ _ _ _ hl, tcs_succ _ _ _ hl, upd, if_neg (by omega)]
      · rw [Array.getElem?_eq_none (by rw [tcs_size]; omega), Array.getElem?_eq_none (by rw [tcs_size]; omega)]
/-- A table at block g. -/
structure TabAt (w : World) (g n : Nat) (C : Nat → Nat) : Prop where
  b : w.heap[g]? = some (.cells (tcs n C) 72 (0, 0))
theorem TabAt.lt {w : World} {g n : Nat} {C : Nat → Nat} (h : TabAt w g n C) : g < w.heap.size := (Array.getElem?_eq_some_iff.1 h.b).1
theorem TabAt.c0 {w : World} {g n : Nat} {C : Nat → Nat} (h : TabAt w g n C) : w.cell? ⟨g, 0, none⟩ = some (.int .i64 (n : Int)) := by
  simp only [World.cell?, h.b]; exact tcs_zero n C
theorem TabAt.c {w : World} {g n : Nat} {C : Nat → Nat} (h : TabAt w g n C) (i : Nat) (hi : i < 240) : w.cell? ⟨g, 1 + i, none⟩ = some (.int .u8 ((C i : Nat) : Int)) := by
  simp only [World.cell?, h.b]; exact tcs_succ n C i hi
theorem TabAt.f {w : World} {g n : Nat} {C : Nat → Nat} (h : TabAt w g n C) (o : Nat) : w.frozen? ⟨g, o, none⟩ = false := frozen_of_row _ _ _ _ _ h.b
theorem TabAt.set {w : World} {g n : Nat} {C : Nat → Nat} (h : TabAt w g n C) (i v : Nat) (hi : i < 240) : TabAt (w.setCell ⟨g, 1 + i, none⟩ (.int .u8 (v : Int))) g n (upd C i v) := by
  refine ⟨?_⟩
  rw [← tcs_set n C i v hi]
  simp [World.setCell, Array.getElem?_modify, h.b]
theorem TabAt.heap {w w' : World} {g n : Nat} {C : Nat → Nat} (h : TabAt w g n C) (e : w'.heap[g]? = w.heap[g]?) : TabAt w' g n C := ⟨e.trans h.b⟩
theorem TabAt.below {w w' : World} {B g n : Nat} {C : Nat → Nat} (h : TabAt w g n C) (hb : Below B w w') (hg : g < B) : TabAt w' g n C := h.heap (hb.block g hg)
theorem TabAt.drew {w : World} {g n : Nat} {C : Nat → Nat} (h : TabAt w g n C) : TabAt w.drew g n C := h.heap rfl
theorem TabAt.drewN {w : World} {g n : Nat} {C : Nat → Nat} (h : TabAt w g n C) (k : Nat) : TabAt (w.drewN k) g n C := h.heap rfl
theorem TabAt.made (w : World) (n : Nat) (C : Nat → Nat) : TabAt (w.alloc (.cells (tcs n C) 72)) w.heap.size n C := ⟨heap_alloc_new _ _⟩
theorem TabAt.other {w : World} {g k o n : Nat} {C : Nat → Nat} (h : TabAt w g n C) (v : Value) (hne : g ≠ k) : TabAt (w.setCell ⟨k, o, none⟩ v) g n C := h.heap (Below.heap_setCell _ _ _ _ (by simpa using hne))
/-- The table at g is turned, and nothing else that was there. -/
structure TabTo (w : World) (g n : Nat) (C : Nat → Nat) (w' : World) : Prop where
  keep : ∀ B, B ≤ g → B ≤ w.heap.size → Below B w w'
  oth : ∀ k, k < w.heap.size → k ≠ g → w'.heap[k]? = w.heap[k]?
  sz : w.heap.size ≤ w'.heap.size
  t : TabAt w' g n C
theorem TabAt.to {w : World} {g n : Nat} {C : Nat → Nat} (h : TabAt w g n C) : TabTo w g n C w := ⟨fun B _ _ => Below.refl _ _, fun _ _ _ => rfl, Nat.le_refl _, h⟩
theorem TabAt.toN {w : World} {g n : Nat} {C : Nat → Nat} (h : TabAt w g n C) (k : Nat) : TabTo w g n C (w.drewN k) := ⟨fun B _ _ => (Below.refl _ _).trans ⟨rfl, rfl, rfl, Nat.le_refl _, fun _ _ => rfl⟩, fun _ _ _ => rfl, Nat.le_refl _, h.drewN k⟩
theorem TabTo.set {w w' : World} {g n : Nat} {C : Nat → Nat} (h : TabTo w g n C w') (i v : Nat) (hi : i < 240) : TabTo w g n (upd C i v) (w'.setCell ⟨g, 1 + i, none⟩ (.int .u8 (v : Int))) :=
  ⟨fun B h1 h2 => (h.keep B h1 h2).setCell (p := ⟨g, 1 + i, none⟩) h1 _, fun k hk hne => (Below.heap_setCell _ _ _ _ (by simpa using hne)).trans (h.oth k hk hne), by simpa using h.sz, h.t.set i v hi⟩
theorem TabTo.drew {w w' : World} {g n : Nat} {C : Nat → Nat} (h : TabTo w g n C w') : TabTo w g n C w'.drew :=
  ⟨fun B h1 h2 => (h.keep B h1 h2).trans ⟨rfl, rfl, rfl, Nat.le_refl _, fun _ _ => rfl⟩, h.oth, h.sz, h.t.drew⟩
theorem TabTo.trans {w w1 w2 : World} {g n m : Nat} {C D : Nat → Nat} (h : TabTo w g n C w1) (k : TabTo w1 g m D w2) : TabTo w g m D w2 :=
  ⟨fun B h1 h2 => (h.keep B h1 h2).trans (k.keep B h1 (Nat.le_trans h2 h.sz)), fun i hi hne => (k.oth i (Nat.lt_of_lt_of_le hi h.sz) hne).trans (h.oth i hi hne), Nat.le_trans h.sz k.sz, k.t⟩
theorem TabTo.after {w w1 w2 : World} {g n : Nat} {C : Nat → Nat} (h : TabTo w g n C w1) (k : Below w1.heap.size w1 w2) : TabTo w g n C w2 :=
  ⟨fun B h1 h2 => (h.keep B h1 h2).trans (k.mono (Nat.le_trans h2 h.sz)), fun i hi hne => (k.block i (Nat.lt_of_lt_of_le hi h.sz)).trans (h.oth i hi hne), Nat.le_trans h.sz k.size, h.t.below k h.t.lt⟩
set_option maxRecDepth 100000 in
theorem tab_info : (Try.prog.info? 72).map (fun i => (i.zero, i.size)) = some (some (.agg (tcs 0 fun _ => 0)), 241) := by kernel_rfl
theorem tcs_ne (n : Nat) (C : Nat → Nat) : tcs n C ≠ #[] := fun h => by have := congrArg Array.size h; rw [tcs_size] at this; cases this
theorem tcs_n (n m : Nat) (C : Nat → Nat) : (tcs n C).setIfInBounds 0 (.int .i64 (m : Int)) = tcs m C := by simp [tcs, tcl]
/-- The counts of a new table. -/
def cnt0 : Nat → Nat := fun i => if i < 3 then 1 else 0
def cntK (k : Nat) : Nat → Nat := fun i => if i < k then 1 else 0
theorem cntK_succ (k : Nat) : upd (cntK k) k 1 = cntK (k + 1) := by
  funext j; unfold upd cntK
  by_cases h : j = k
  · rw [if_pos h, if_pos (by omega)]
  · rw [if_neg h]
    by_cases h2 : j < k
    · rw [if_pos h2, if_pos (by omega)]
    · rw [if_neg h2, if_neg (by omega)]
def MadeT (w : World) (n : Nat) (C : Nat → Nat) (e : Ending) (w' : World) : Prop := e = .returned (.tuple #[.pointer (some ⟨w.heap.size, 0, none⟩), .int .i64 0]) ∧ Below w.heap.size w w' ∧ TabAt w' w.heap.size n C
set_option maxRecDepth 100000 in
set_option maxHeartbeats 1000000 in
theorem new_good (n : Nat) (w : World) (h1 : 8 ≤ n) (h2 : n ≤ 200) : Calls Try.prog 29 #[.int .i64 (n : Int)] w (MadeT w n cnt0) := by
  have t1 : decide ((n : Int) < 8) = false := by rw [decide_eq_false_iff_not]; omega
  have t2 : decide ((200 : Int) < (n : Int)) = false := by rw [decide_eq_false_iff_not]; omega
  have hz := (zero_of_info tab_info).1
  have hne := tcs_ne 0 fun _ => 0
  have hset := tcs_n 0 n fun _ => 0
  have hT := TabAt.made w n fun _ => 0
  have hB : Below w.heap.size w (w.alloc (.cells (tcs n fun _ => 0) 72)) := (Below.refl _ _).alloc (Nat.le_refl _) _
  have e0 : (fun _ => 0 : Nat → Nat) = cntK 0 := by funext j; simp [cntK]
  rw [e0] at hT hB hz hne hset
  have e3 : Hid (cntK 3 = cnt0) := Lib.hid rfl
  clear e0
  generalize tcs n (cntK 0) = cs at *
  generalize tcs 0 (cntK 0) = zs at *
  go_enter Try.func29, Try.ntmps29
  go_wp2_with (fail)
  clear hz hne hset
  generalize hw0 : w.alloc (.cells cs 72) = w0 at *
  go_loopw [15] (fun t wr => ∃ k : Nat, k ≤ 3 ∧ t = .int .i64 (k : Int) ∧ Below w.heap.size w wr ∧ TabAt wr w.heap.size n (cntK k)) (fun t _ => 3 - (intOf t).toNat)
  case atStart => exact ⟨0, by omega, rfl, hB, hT⟩
  case round =>
    obtain ⟨k, hk, rfl, hBk, hTk⟩ := hrel
    by_cases hlt : k < 3
    · have t3 : (k : Int) < 3 := by omega
      have c := hTk.c k (by omega)
      have f := hTk.f (1 + k)
      have hn := hTk.set k 1 (by omega)
      rw [cntK_succ] at hn
      have hk240 : (k : Int) < 240 := by omega
      go_wp2_with (fail)
      go_roundw
      case rel => exact ⟨k + 1, by omega, by go_num, hBk.setCell (Nat.le_refl _) _, hn⟩
      case measure => simp [intOf]; omega
    · obtain rfl : k = 3 := by omega
      rw [e3.out] at hTk
      go_wp2_with (fail)
      go_ret2
      exact ⟨rfl, hBk, hTk⟩
theorem new_bad (n : Int) (w : World) (h : n < 8 ∨ 200 < n) : Calls Try.prog 29 #[.int .i64 n] w fun e w' => e = .returned (.tuple #[.pointer none, .int .i64 1]) ∧ w = w' := by
  by_cases h1 : n < 8
  · have t1 : decide (n < 8) = true := decide_eq_true h1
    clear h h1
    go_enter Try.func29, Try.ntmps29
    go_wp2
    go_ret2
    exact ⟨rfl, rfl⟩
  · have t1 : decide (n < 8) = false := decide_eq_false h1
    have t2 : decide (200 < n) = true := decide_eq_true (by omega)
    clear h h1
    go_enter Try.func29, Try.ntmps29
    go_wp2
    go_ret2
    exact ⟨rfl, rfl⟩
end Go.Proofs.Ytlbjfigdocbffaa
