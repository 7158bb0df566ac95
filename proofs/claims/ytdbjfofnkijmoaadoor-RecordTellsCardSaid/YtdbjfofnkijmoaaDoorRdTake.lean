/- Readers: the iterator over the next bytes. -/
import Derived.Test.YtdbjfofnkijmoaaDoorRdRef
import Derived.Test.YtdbjfofnkijmoaaDoorRange
import Derived.RangeFuncNested
import Derived.RangeFuncBound
import Derived.RangeFuncCalls
import Derived.RangeFuncLeaves
import Derived.Shelf.Abstract
import Derived.Shelf.RegionOpen
import Derived.OwnWalkIn
import Derived.TacticsInMore
import Derived.LoopNIn
import Derived.LoopIn
namespace Go.Proofs.YtdbjfofnkijmoaaDoor
open Go.RowKit Go.Shelf
set_option linter.unusedVariables false
set_option linter.unusedSimpArgs false
attribute [local go_sem] Oper.semAt_some

theorem take_any (b : Nat) (n : Int) (w : World) : Calls Tryd.prog 67 #[.pointer (some ⟨b, 0, none⟩), .int .i64 n] w fun e w' =>
    e = .returned (.func (.func 70) #[] #[.pointer (some ⟨w.heap.size + 1, 0, none⟩), .pointer (some ⟨w.heap.size, 0, none⟩)]) ∧ w' = (w.alloc (.cells #[.pointer (some ⟨b, 0, none⟩)] 81)).alloc (.cells #[.int .i64 n] 3) := by
  go_enter Tryd.func67, Tryd.ntmps67
  go_wp2
  go_ret
  exact ⟨rfl, rfl⟩
/-- What the iterator reads: i bytes are taken. -/
structure TkAt (b Bn Br : Nat) (s : ByteArray) (k : Nat) (i : Nat) (W : World) : Prop where
  c : W.cell? ⟨b, 0, none⟩ = some (.string (s.extract i s.size))
  f : W.frozen? ⟨b, 0, none⟩ = false
  r : W.cell? ⟨Br, 0, none⟩ = some (.pointer (some ⟨b, 0, none⟩))
  n : W.cell? ⟨Bn, 0, none⟩ = some (.int .i64 (k : Int))
def byteAt (s : ByteArray) (i : Nat) : UInt8 := s.data.toList.getD i 0
theorem rest_facts (s : ByteArray) (i : Nat) (h : i < s.size) : ∃ h0 : 0 < (s.extract i s.size).size, (s.extract i s.size)[0] = byteAt s i ∧ (s.extract i s.size).extract 1 (s.extract i s.size).size = s.extract (i + 1) s.size ∧ 1 ≤ (s.extract i s.size).size ∧ (s.extract i s.size).size ≤ s.size := by
  have hz : (s.extract i s.size).size = s.size - i := by simp [ByteArray.size_extract]
  refine ⟨by omega, ?_, ?_, by omega, by omega⟩
  · rw [ByteArray.getElem_extract]
    unfold byteAt
    rw [List.getD_eq_getElem?_getD, List.getElem?_eq_getElem (by simpa using h)]
    rfl
  · rw [ByteArray.extract_extract]
    congr 1 <;> omega
set_option maxRecDepth 100000 in
set_option maxHeartbeats 2000000 in
theorem take_it (n : Nat) (hn : 1 ≤ n) (l b Bn Br : Nat) (s : ByteArray) (k : Nat) (hk : k ≤ s.size) (hs : s.size ≤ 140737488355328) (hne : b ≠ Br) (hne2 : b ≠ Bn) (K : World → Prop) (C : Nat → World → Prop)
    (hst : ∀ i W, i < k → TkAt b Bn Br s k i W → C i W → K W → C i (W.setCell ⟨b, 0, none⟩ (.string (s.extract (i + 1) s.size))).drew ∧ K (W.setCell ⟨b, 0, none⟩ (.string (s.extract (i + 1) s.size))).drew)
    (hY : ∀ i W1, i < k → TkAt b Bn Br s k (i + 1) W1 → C i W1 → K W1 → YieldAt Fence.wide (n - 1) Tryd.prog l #[.int .u8 (((byteAt s i).toNat : Nat) : Int)] W1 fun e W' => e = .returned (.bool true) ∧ TkAt b Bn Br s k (i + 1) W' ∧ C (i + 1) W' ∧ K W')
    (W : World) (h0 : TkAt b Bn Br s k 0 W) (hC : C 0 W) (hK : K W) :
    CallsIn Fence.wide n Tryd.prog 70 #[.func (.yield l) #[] #[], .pointer (some ⟨Bn, 0, none⟩), .pointer (some ⟨Br, 0, none⟩)] W fun e W' => (∃ v, e = .returned v) ∧ TkAt b Bn Br s k k W' ∧ C k W' ∧ K W' := by
  refine callsIn_of_wp Tryd.func70 rfl trivial ?_ rfl
  simp only [Tryd.ntmps70, List.size_toArray, List.length_cons, List.length_nil, Nat.reduceAdd, Nat.reduceSub, Array.replicate_succ, Array.replicate_zero, List.push_toArray, List.append_toArray, List.nil_append, List.cons_append]
  have hcn := h0.n
  have hk2 : (k : Int) ≤ 140737488355328 := by omega
  gi_wp2
  gi_loopw [6] (fun i wr => ∃ q : Nat, q ≤ k ∧ i = .int .i64 (q : Int) ∧ TkAt b Bn Br s k q wr ∧ C q wr ∧ K wr) (fun i _ => k - (intOf i).toNat)
  case atStart => exact ⟨0, by omega, rfl, h0, hC, hK⟩
  case round =>
    obtain ⟨q, hq, rfl, hT, hCq, hKq⟩ := hrel
    by_cases hlt : q < k
    · have b1 : (q : Int) < (k : Int) := by omega
      obtain ⟨z0, z1, z2, z3, z4⟩ := rest_facts s q (by omega)
      have g2 := fun W => from_run (P := Tryd.prog) (T := 9) Tryd.underlying9 (s.extract q s.size) 1 z3 W
      rw [z2, show ((1 : Nat) : Int) = 1 from rfl] at g2
      obtain ⟨s1, s2⟩ := hst q wr hlt hT hCq hKq
      have hT2 : TkAt b Bn Br s k (q + 1) (wr.setCell ⟨b, 0, none⟩ (.string (s.extract (q + 1) s.size))).drew :=
        ⟨World.cell?_setCell_same' wr _ _ (by rw [hT.c]; rfl), by show (wr.setCell _ _).frozen? _ = false; rw [World.frozen?_setCell]; exact hT.f, by show (wr.setCell _ _).cell? _ = _; rw [World.cell?_setCell_other wr _ _ _ (fun e => hne (congrArg Addr.block e))]; exact hT.r, by show (wr.setCell _ _).cell? _ = _; rw [World.cell?_setCell_other wr _ _ _ (fun e => hne2 (congrArg Addr.block e))]; exact hT.n⟩
      obtain ⟨fn, tmps, assign, body, hy, hR⟩ := hY q _ hlt hT2 s1 s2
      have c0 := hT.c
      have f0 := hT.f
      have r0 := hT.r
      clear z2 hst hY h0 hC hK hT hCq hKq hT2 s1 s2
      generalize s.extract q s.size = rest at *
      generalize s.extract (q + 1) s.size = rest2 at *
      generalize byteAt s q = x at *
      gi_wp2
      gi_region
      all_goals
        gi_wp2
        refine hR.mono ?_
        rintro e W3 ⟨rfl, hT3, hC3, hK3⟩
        gi_wp2
        go_roundw
        case rel => exact ⟨q + 1, by omega, by go_num, hT3, hC3, hK3⟩
        case measure => simp [intOf]; omega
    · have e : q = k := by omega
      subst e
      gi_wp2
      go_end0
      exact ⟨⟨_, rfl⟩, hT, hCq, hKq⟩
end Go.Proofs.YtdbjfofnkijmoaaDoor
