/- label: what is right, walked. -/
import Derived.Test.YtaopknddpagjeaaDoorLabMath
import Derived.Test.YtaopknddpagjeaaDoorSl4
namespace Go.Proofs.YtaopknddpagjeaaDoor
open Go.RowKit
set_option linter.unusedVariables false
set_option linter.unusedSimpArgs false
open Lb

def Tells (w : World) (v : Value) (e : Ending) (w' : World) : Prop := e = .returned v ∧ Below w.heap.size w w'
theorem within_any (n lo hi : Int) (w : World) : Calls Tryd.prog 43 #[.int .i64 n, .int .i64 lo, .int .i64 hi] w (Tells w (.bool (wi n lo hi))) := by
  by_cases h1 : lo ≤ n
  · by_cases h2 : n ≤ hi
    · have hz : Hid (wi n lo hi = true) := Lib.hid (decide_eq_true ⟨h1, h2⟩)
      go_enter Tryd.func43, Tryd.ntmps43
      go_wp2
      go_ret
      exact ⟨by rw [hz.out]; rfl, Below.refl _ _⟩
    · have hz : Hid (wi n lo hi = false) := Lib.hid (decide_eq_false fun e => h2 e.2)
      go_enter Tryd.func43, Tryd.ntmps43
      go_wp2
      go_ret
      exact ⟨by rw [hz.out]; rfl, Below.refl _ _⟩
  · have hz : Hid (wi n lo hi = false) := Lib.hid (decide_eq_false fun e => h1 e.1)
    go_enter Tryd.func43, Tryd.ntmps43
    go_wp2
    go_ret
    exact ⟨by rw [hz.out]; rfl, Below.refl _ _⟩
theorem are1_any (n lo hi : Int) (p q : Nat) (w : World) (hp : w.cell? ⟨p, 0, none⟩ = some (.int .i64 lo)) (hq : w.cell? ⟨q, 0, none⟩ = some (.int .i64 hi)) : Calls Tryd.prog 64 #[.int .i64 n, .pointer (some ⟨p, 0, none⟩), .pointer (some ⟨q, 0, none⟩)] w (Tells w (.bool (!wi n lo hi))) := by
  have hc := within_any n lo hi
  generalize wi n lo hi = d at *
  go_enter Tryd.func64, Tryd.ntmps64
  go_wp2_with (go_at_call 43; ((with_reducible refine (hc _).mono ?_); rintro e w3 ⟨rfl, b3⟩))
  go_ret
  exact ⟨rfl, b3⟩
def idxN (P : Int → Bool) (l : List Int) : Int := if l.findIdx P < l.length then ((l.findIdx P : Nat) : Int) else -1
theorem getD_get {l : List Int} {k : Nat} (h : k < l.length) : l.getD k 0 = l[k] := by simp [List.getD_eq_getElem?_getD, h]
theorem idxN_here {P : Int → Bool} {l : List Int} {k : Nat} (hk : k < l.length) (h : P (l.getD k 0) = true) (hb : ∀ j, j < k → P (l.getD j 0) = false) : idxN P l = (k : Int) := by
  have : l.findIdx P = k := by
    rw [List.findIdx_eq hk]
    exact ⟨by rw [← getD_get hk]; exact h, fun j hj => by rw [← getD_get (by omega)]; rw [hb j hj]⟩
  unfold idxN; rw [this, if_pos hk]
theorem idxN_none {P : Int → Bool} {l : List Int} (hb : ∀ j, j < l.length → P (l.getD j 0) = false) : idxN P l = -1 := by
  have : l.findIdx P = l.length := by
    rw [List.findIdx_eq_length]
    intro x hx
    obtain ⟨i, hi, rfl⟩ := List.getElem_of_mem hx
    rw [← getD_get hi]; exact hb i hi
  unfold idxN; rw [this, if_neg (Nat.lt_irrefl _)]
theorem idxN_any (P : Int → Bool) (l : List Int) : decide (idxN P l ≥ 0) = l.any P := by
  unfold idxN
  by_cases h : l.findIdx P < l.length
  · rw [if_pos h, (by rw [List.any_eq_true]; exact ⟨_, List.getElem_mem h, List.findIdx_getElem⟩ : l.any P = true)]
    exact decide_eq_true (Int.natCast_nonneg _)
  · rw [if_neg h]
    have e : l.findIdx P = l.length := Nat.le_antisymm List.findIdx_le_length (Nat.le_of_not_lt h)
    rw [List.findIdx_eq_length] at e
    rw [show l.any P = false by rw [List.any_eq_false]; intro x hx; rw [e x hx]; decide]
    rfl
set_option maxRecDepth 100000 in
set_option maxHeartbeats 4000000 in
theorem idx_are (v : Value) (l : List Int) (w : World) (hR : Reads w v (l.map (.int .i64))) (hl : l.length ≤ 140737488355328) (lo hi : Int) (p q : Nat) (hp : w.cell? ⟨p, 0, none⟩ = some (.int .i64 lo)) (hq : w.cell? ⟨q, 0, none⟩ = some (.int .i64 hi)) (hp1 : p < w.heap.size) (hq1 : q < w.heap.size) :
    Calls Tryd.prog 77 #[v, .func (.func 64) #[] #[.pointer (some ⟨p, 0, none⟩), .pointer (some ⟨q, 0, none⟩)]] w (Tells w (.int .i64 (idxN (fun x => !wi x lo hi) l))) := by
  obtain ⟨a, cap, rfl, cl⟩ := hR.nums
  clear hR
  have c1 : ∀ (x : Int) (W : World), Below w.heap.size w W → Calls Tryd.prog 64 #[.int .i64 x, .pointer (some ⟨p, 0, none⟩), .pointer (some ⟨q, 0, none⟩)] W (Tells W (.bool ((fun x => !wi x lo hi) x))) := fun x W hW => are1_any x lo hi p q W (by rw [hW.cell (p := ⟨p, 0, none⟩) hp1]; exact hp) (by rw [hW.cell (p := ⟨q, 0, none⟩) hq1]; exact hq)
  obtain ⟨P, hP⟩ : ∃ P : Int → Bool, (fun x => !wi x lo hi) = P := ⟨_, rfl⟩
  rw [hP] at c1
  rw [hP]
  clear hP hp hq hp1 hq1
  go_enter Tryd.func77, Tryd.ntmps77
  go_wp2
  go_loopw [8] (fun i wr => ∃ k : Nat, k ≤ l.length ∧ i = .int .i64 (k : Int) ∧ (∀ j, j < k → P (l.getD j 0) = false) ∧ Below w.heap.size w wr) (fun i _ => l.length - (intOf i).toNat)
  case atStart => exact ⟨0, by omega, rfl, (fun j hj => absurd hj (Nat.not_lt_zero _)), Below.refl _ _⟩
  case round =>
    obtain ⟨k, hk, rfl, hc, hB⟩ := hrel
    rename World => wr
    have hBs := hB.size
    by_cases hlt : k < l.length
    · have x1 : (k : Int) < (l.length : Int) := by omega
      obtain ⟨cb, co, rfl, hcb, hcl⟩ := cl k hlt
      have d0 : wr.cell? ⟨cb, co + k, none⟩ = _ := (hB.cell (p := ⟨cb, co + k, none⟩) hcb).trans hcl
      have hcall := c1 (l.getD k 0) wr hB
      have hhere : P (l.getD k 0) = true → Hid (idxN P l = (k : Int)) := fun h => Lib.hid (idxN_here hlt h hc)
      have hnext : P (l.getD k 0) = false → ∀ j, j < k + 1 → P (l.getD j 0) = false := fun h j hj => by
        rcases Nat.lt_succ_iff_lt_or_eq.1 hj with h1 | rfl
        · exact hc j h1
        · exact h
      cases hb : P (l.getD k 0) with
      | true =>
        have hz := hhere hb
        rw [hb] at hcall
        clear hhere hnext hc c1
        generalize l.getD k 0 = x at *
        go_wp2_with (go_at_call 64; ((with_reducible refine hcall.mono ?_); rintro e w3 ⟨rfl, b3⟩))
        go_ret
        exact ⟨by rw [hz.out]; rfl, below_c hB b3⟩
      | false =>
        have hz := hnext hb
        rw [hb] at hcall
        clear hhere hnext hc c1
        generalize l.getD k 0 = x at *
        go_wp2_with (go_at_call 64; ((with_reducible refine hcall.mono ?_); rintro e w3 ⟨rfl, b3⟩))
        go_roundw
        case rel => exact ⟨k + 1, by omega, by go_num, hz, below_c hB b3⟩
        case measure => simp [intOf]; omega
    · have x1 : ¬ ((k : Int) < (l.length : Int)) := by omega
      obtain rfl : k = l.length := by omega
      have hz : Hid (idxN P l = -1) := Lib.hid (idxN_none hc)
      clear hc
      go_wp2_with (fail)
      go_ret
      exact ⟨by rw [hz.out]; rfl, hB⟩
theorem has_are (v : Value) (l : List Int) (w : World) (hR : Reads w v (l.map (.int .i64))) (hl : l.length ≤ 140737488355328) (lo hi : Int) (p q : Nat) (hp : w.cell? ⟨p, 0, none⟩ = some (.int .i64 lo)) (hq : w.cell? ⟨q, 0, none⟩ = some (.int .i64 hi)) (hp1 : p < w.heap.size) (hq1 : q < w.heap.size) :
    Calls Tryd.prog 63 #[v, .func (.func 64) #[] #[.pointer (some ⟨p, 0, none⟩), .pointer (some ⟨q, 0, none⟩)]] w (Tells w (.bool (l.any fun x => !wi x lo hi))) := by
  have hc := idx_are v l w hR hl lo hi p q hp hq hp1 hq1
  rw [← idxN_any]
  generalize idxN (fun x => !wi x lo hi) l = n at *
  clear hR hp hq
  go_enter Tryd.func63, Tryd.ntmps63
  go_wp2_with (go_at_call 77; ((with_reducible refine hc.mono ?_); rintro e w3 ⟨rfl, b3⟩))
  go_ret
  exact ⟨rfl, b3⟩
theorem areB_eq (l : List Int) (n lo hi : Int) : areB l n lo hi = (decide ((l.length : Int) = n) && !l.any fun x => !wi x lo hi) := by
  unfold areB
  rw [List.not_any_eq_all_not]
  simp
set_option maxRecDepth 100000 in
set_option maxHeartbeats 2000000 in
theorem are_any (v : Value) (l : List Int) (w : World) (hR : Reads w v (l.map (.int .i64))) (hl : l.length ≤ 140737488355328) (n lo hi : Int) :
    Calls Tryd.prog 44 #[v, .int .i64 n, .int .i64 lo, .int .i64 hi] w (Tells w (.bool (areB l n lo hi))) := by
  obtain ⟨a, cap, rfl, _⟩ := hR.nums
  have he := Lib.hid (areB_eq l n lo hi)
  have hmf : ∀ (fn : Fn) (first cap : Array Value) (w : World), (Instr.makeFunc fn first cap).run Tryd.prog w = .ok (.func fn first cap) w := fun _ _ _ _ => rfl
  have hb : Below w.heap.size w ((w.alloc (.cells #[.int .i64 lo] 3)).alloc (.cells #[.int .i64 hi] 3)) := ((Below.refl _ _).alloc (Nat.le_refl _) _).alloc (by simp) _
  have hc := has_are _ l _ (hR.below hb) hl lo hi w.heap.size (w.heap.size + 1) (by simp) (by simp) (by simp <;> omega) (by simp <;> omega)
  have hlen : (l.length : Int) = ((l.length : Nat) : Int) := rfl
  generalize hW : (w.alloc (.cells #[.int .i64 lo] 3)).alloc (.cells #[.int .i64 hi] 3) = W at *
  generalize (l.any fun x => !wi x lo hi) = d at *
  clear hR
  by_cases h : (l.length : Int) = n
  · have hz : Hid (areB l n lo hi = !d) := Lib.hid (by rw [he.out, decide_eq_true h, Bool.true_and])
    have t : ((l.length : Int) == n) = true := by rw [beq_iff_eq]; exact h
    clear h he hlen
    go_enter Tryd.func44, Tryd.ntmps44
    go_wp2_with (go_at_call 63; ((with_reducible refine hc.mono ?_); rintro e w3 ⟨rfl, b3⟩))
    go_ret
    exact ⟨by rw [hz.out]; rfl, below_c hb b3⟩
  · have hz : Hid (areB l n lo hi = false) := Lib.hid (by rw [he.out, decide_eq_false h, Bool.false_and])
    have t : ((l.length : Int) == n) = false := by rw [beq_eq_false_iff_ne]; exact h
    clear h he hlen hc
    go_enter Tryd.func44, Tryd.ntmps44
    go_wp2
    go_ret
    exact ⟨by rw [hz.out]; rfl, hb⟩
end Go.Proofs.YtaopknddpagjeaaDoor
