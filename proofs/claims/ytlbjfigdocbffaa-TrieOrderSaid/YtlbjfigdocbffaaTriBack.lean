/- trie: a list of pairs from behind. -/
import Derived.Test.YtlbjfigdocbffaaTriPairs
import Derived.Test.YtlbjfigdocbffaaRangeD
import Derived.RangeFuncBound
import Derived.RangeFuncCalls
import Derived.RangeFuncLeaves
import Derived.Shelf.Abstract
import Derived.Shelf.RegionOpen
import Derived.WalkKit
import Derived.OwnWalkIn
import Derived.TacticsInMore
import Derived.LoopNIn
import Derived.LoopIn
namespace Go.Proofs.Ytlbjfigdocbffaa
section
open Go Go.RowKit Go.Shelf
attribute [local go_sem] Oper.semAt_some
set_option linter.unusedVariables false
set_option linter.unusedSimpArgs false

theorem backward_any (a : Option Addr) (n c : Nat) (w : World) : Calls Try.prog 47 #[.slice a n c] w fun x w' => x = .returned (.func (.func 58) #[] #[.pointer (some ⟨w.heap.size, 0, none⟩)]) ∧ w' = w.alloc (.cells #[.slice a n c] 63) := by
  go_enter Try.func47, Try.ntmps47
  go_wp2_with (fail)
  go_ret
  exact ⟨rfl, rfl⟩
/-- What a list of pairs reads as. -/
def PReads (W : World) (v : Value) (L : List (Nat × Nat)) : Prop := ReadsE pairE W v L
/-- The j-th from behind. -/
def fromEnd (L : List (Nat × Nat)) (j : Nat) : Nat × Nat := L.getD (L.length - 1 - j) (0, 0)
def backEnc (L : List (Nat × Nat)) (j : Nat) : Array Value := #[.int .i64 ((L.length : Int) - 1 - (j : Int)), .agg #[.int .i64 ((fromEnd L j).1 : Int), .int .i64 ((fromEnd L j).2 : Int)]]
set_option maxRecDepth 100000 in
set_option maxHeartbeats 2000000 in
theorem back_in (F : Fence) (n : Nat) (hf : F.fn 58) (hro : F.round = none) (hn : 1 ≤ n) (l bx : Nat) (v : Value) (L : List (Nat × Nat)) (hL : L.length ≤ 1000000) (J : Nat → World → Prop) (Jx : World → Prop)
    (hR : ∀ i W, J i W → W.cell? ⟨bx, 0, none⟩ = some v ∧ PReads W v L)
    (hY : ∀ (i : Nat) (W1 : World), i < L.length → J i W1 → YieldAt F (n - 1) Try.prog l (backEnc L i) W1 fun e W' => (e = .returned (.bool true) ∧ J (i + 1) W') ∨ (e = .returned (.bool false) ∧ Jx W'))
    (W : World) (h0 : J 0 W) :
    CallsIn F n Try.prog 58 #[.func (.yield l) #[] #[], .pointer (some ⟨bx, 0, none⟩)] W fun e W' => (∃ v, e = .returned v) ∧ (J L.length W' ∨ Jx W') := by
  refine callsIn_of_wp Try.func58 rfl hf ?_ hro
  simp only [Try.ntmps58, List.size_toArray, List.length_cons, List.length_nil, Nat.reduceAdd, Nat.reduceSub, Array.replicate_succ, Array.replicate_zero, List.push_toArray, List.append_toArray, List.nil_append, List.cons_append]
  obtain ⟨hc, hr⟩ := hR 0 W h0
  obtain ⟨a, cap, rfl, hit⟩ := ReadsE.items hr
  have HR := Lib.hid hR
  have HY := Lib.hid hY
  clear hR hY hr hit
  have hw1 : IntKind.i64.wrap ((L.length : Int) - 1) = (L.length : Int) - 1 := IntWalk.i64_in _ (by omega)
  gi_wp2
  clear hc
  gi_loopw [3] (fun i wr => ∃ j : Nat, j ≤ L.length ∧ i = .int .i64 ((L.length : Int) - 1 - (j : Int)) ∧ J j wr) (fun i _ => (intOf i + 1).toNat)
  case atStart => exact ⟨0, Nat.zero_le _, by simp, h0⟩
  case round =>
    obtain ⟨j, hj, rfl, hJ⟩ := hrel
    rename World => wr
    by_cases hlt : j < L.length
    · obtain ⟨q, hq⟩ : ∃ q : Nat, (L.length : Int) - 1 - (j : Int) = (q : Int) := ⟨L.length - 1 - j, by omega⟩
      have hqn : q = L.length - 1 - j := by omega
      have hql : q < L.length := by omega
      obtain ⟨hc, hr⟩ := HR.out j wr hJ
      obtain ⟨a', cap', ev, hit⟩ := ReadsE.items hr
      obtain ⟨rfl, rfl⟩ : a = a' ∧ cap = cap' := by simpa using ev
      clear ev
      obtain ⟨cb, co, rfl, hcb, hcell⟩ := hit q hql
      have hfe : fromEnd L j = L[q] := by unfold fromEnd; rw [← hqn, List.getD_eq_getElem?_getD, List.getElem?_eq_getElem hql]; rfl
      have c0 := hcell 0 (by decide)
      have c1 := hcell 1 (by decide)
      replace c0 : wr.cell? ⟨cb, co + q * 2, none⟩ = some (.int .i64 ((L[q].1 : Nat) : Int)) := c0
      replace c1 : wr.cell? ⟨cb, co + q * 2 + 1, none⟩ = some (.int .i64 ((L[q].2 : Nat) : Int)) := c1
      obtain ⟨fn, tmps, assign, body, hy, hRd⟩ := HY.out j wr hlt hJ
      unfold backEnc at hy
      rw [hfe, hq] at hy
      have y1 : (q : Int) < (L.length : Int) := by omega
      have y2 : (0 : Int) ≤ (q : Int) := by omega
      have y3 : decide ((q : Int) ≥ 0) = true := decide_eq_true y2
      have y4 : ¬ ((q : Int) < 0) := by omega
      have hwn : IntKind.i64.wrap ((q : Int) - 1) = (q : Int) - 1 := IntWalk.i64_in _ (by omega)
      have hq' := Lib.hid hq
      rw [hq]
      clear hcell hit hr hfe hqn hq
      generalize L[q] = pr at *
      clear hql
      gi_wp2
      refine hRd.mono ?_
      rintro e W4 (⟨rfl, hJ3⟩ | ⟨rfl, hJx3⟩)
      · gi_wp2
        go_roundw
        case rel => exact ⟨j + 1, by omega, by have := hq'.out; first | done | (congr 1; omega), hJ3⟩
        case measure => have := hq'.out; simp [intOf] <;> omega
      · gi_wp2
        refine bodyPost_ret (results_none rfl _ _ _) rfl ?_
        exact ⟨⟨_, rfl⟩, .inr hJx3⟩
    · obtain rfl : j = L.length := by omega
      have y1 : (L.length : Int) - 1 - (L.length : Int) = -1 := by omega
      rw [y1]
      gi_wp2
      go_end0
      exact ⟨⟨_, rfl⟩, .inl hJ⟩
end
end Go.Proofs.Ytlbjfigdocbffaa
