/- Lreca: what this claim reaches of RdBase, RdRef, RdTake and others. -/
import Derived.Test.YtfadglcpapiklaaGreatDoorLsec
import Derived.Test.YtfadglcpapiklaaGreatDoorLbase
import Derived.Deep.RegionWith
import Derived.BigQuiet
import Derived.Deep.QuietTactic
import Derived.Lib.TrimByte
import Derived.IntWalk
import Derived.RangeFuncNested
import Derived.RangeFuncBound
import Derived.RangeFuncCalls
import Derived.RangeFuncLeaves
import Derived.Shelf.Abstract
import Derived.Shelf.RegionOpen
import Derived.OwnWalkIn
import Derived.TacticsInMore
import Derived.LoopNIn
import Derived.LoopIn
import Derived.WideShapes
import Derived.Test.YtfadglcpapiklaaGreatDoorLgeo
import Derived.Lib.Strings
import Derived.Deep.Cut
import Derived.RangeFuncBox
import Derived.WalkKit
import Derived.RangeFuncFrom
import Derived.Test.YtfadglcpapiklaaGreatDoorShelf
import Derived.RangeFuncWrites
import Derived.Maps.AppendAt
import Derived.StillTailTactics
section
namespace Go.Proofs.YtfadglcpapiklaaGreatDoor
open Go.RowKit
set_option linter.unusedVariables false
set_option linter.unusedSimpArgs false

/-- A reader at block b: what is left, and whether it is bad. -/
structure RdAt (w : World) (b : Nat) (s : ByteArray) (bad : Bool) : Prop where
  c0 : w.cell? ⟨b, 0, none⟩ = some (.string s)
  c1 : w.cell? ⟨b, 1, none⟩ = some (.bool bad)
  f0 : w.frozen? ⟨b, 0, none⟩ = false
  f1 : w.frozen? ⟨b, 1, none⟩ = false
  lt : b < w.heap.size
theorem RdAt.below {w w' : World} {b B : Nat} {s : ByteArray} {bad : Bool} (h : RdAt w b s bad) (hb : Below B w w') (hB : b < B) : RdAt w' b s bad :=
  ⟨by rw [hb.cell (p := ⟨b, 0, none⟩) hB]; exact h.c0, by rw [hb.cell (p := ⟨b, 1, none⟩) hB]; exact h.c1, by rw [hb.frozen (p := ⟨b, 0, none⟩) hB]; exact h.f0, by rw [hb.frozen (p := ⟨b, 1, none⟩) hB]; exact h.f1, Nat.lt_of_lt_of_le h.lt hb.size⟩
theorem RdAt.made (w : World) (s : ByteArray) (T : TypeId) : RdAt (w.alloc (.cells #[.string s, .bool false] T)) w.heap.size s false :=
  ⟨by rw [World.cell?_alloc_mark]; rfl, by rw [World.cell?_alloc_mark]; rfl, frozen_of_row _ _ _ _ _ (heap_alloc_new _ _), frozen_of_row _ _ _ _ _ (heap_alloc_new _ _), by simp⟩
/-- The reader at b is turned, and nothing else that was there. -/
structure RdTo (w : World) (b : Nat) (s : ByteArray) (bad : Bool) (w' : World) : Prop where
  keep : ∀ B, B ≤ b → B ≤ w.heap.size → Below B w w'
  oth : ∀ k, k < w.heap.size → k ≠ b → w'.heap[k]? = w.heap[k]?
  r : RdAt w' b s bad
theorem RdTo.below {B : Nat} {w w' : World} {b : Nat} {s : ByteArray} {bad : Bool} (h : RdTo w b s bad w') (hB : B ≤ b) (hw : B ≤ w.heap.size) : Below B w w' := h.keep B hB hw
theorem RdTo.size {w w' : World} {b : Nat} {s : ByteArray} {bad : Bool} (h : RdTo w b s bad w') : w.heap.size ≤ w'.heap.size := (h.keep 0 (Nat.zero_le _) (Nat.zero_le _)).size
theorem RdTo.trans {w w1 w2 : World} {b : Nat} {s t : ByteArray} {bad bad' : Bool} (h : RdTo w b s bad w1) (k : RdTo w1 b t bad' w2) : RdTo w b t bad' w2 :=
  ⟨fun B h1 h2 => (h.keep B h1 h2).trans (k.keep B h1 (Nat.le_trans h2 h.size)), fun i hi hne => (k.oth i (Nat.lt_of_lt_of_le hi h.size) hne).trans (h.oth i hi hne), k.r⟩
theorem drew_below (w : World) (n : Nat) : Below w.heap.size w (w.drewN n) := (Below.refl w.heap.size w).trans ⟨rfl, rfl, rfl, Nat.le_refl _, fun _ _ => rfl⟩
theorem RdAt.refl {w : World} {b : Nat} {s : ByteArray} {bad : Bool} (h : RdAt w b s bad) : RdTo w b s bad w := ⟨fun B _ _ => Below.refl _ _, fun _ _ _ => rfl, h⟩
theorem RdAt.set0 {w : World} {b : Nat} {s : ByteArray} {bad : Bool} (h : RdAt w b s bad) (t : ByteArray) : RdTo w b t bad (w.setCell ⟨b, 0, none⟩ (.string t)) :=
  ⟨fun B h1 _ => (Below.refl B w).setCell (p := ⟨b, 0, none⟩) h1 _, fun i hi hne => Below.heap_setCell _ _ _ _ (by simpa using hne),
    ⟨World.cell?_setCell_same' w _ _ (by rw [h.c0]; rfl), by rw [World.cell?_setCell_other w _ _ _ (by simp)]; exact h.c1, by rw [World.frozen?_setCell]; exact h.f0, by rw [World.frozen?_setCell]; exact h.f1, by simpa using h.lt⟩⟩
theorem RdAt.set1 {w : World} {b : Nat} {s : ByteArray} {bad : Bool} (h : RdAt w b s bad) (x : Bool) : RdTo w b s x (w.setCell ⟨b, 1, none⟩ (.bool x)) :=
  ⟨fun B h1 _ => (Below.refl B w).setCell (p := ⟨b, 1, none⟩) h1 _, fun i hi hne => Below.heap_setCell _ _ _ _ (by simpa using hne),
    ⟨by rw [World.cell?_setCell_other w _ _ _ (by simp)]; exact h.c0, World.cell?_setCell_same' w _ _ (by rw [h.c1]; rfl), by rw [World.frozen?_setCell]; exact h.f0, by rw [World.frozen?_setCell]; exact h.f1, by simpa using h.lt⟩⟩
theorem cell_of_heap11 {w w' : World} {k : Nat} (h : w'.heap[k]? = w.heap[k]?) (o : Nat) : w'.cell? ⟨k, o, none⟩ = w.cell? ⟨k, o, none⟩ := by simp only [World.cell?, h]
theorem frozen_of_heap {w w' : World} {k : Nat} (h : w'.heap[k]? = w.heap[k]?) (o : Nat) : w'.frozen? ⟨k, o, none⟩ = w.frozen? ⟨k, o, none⟩ := by simp only [World.frozen?, h]
theorem RdAt.other {w w' : World} {b c : Nat} {s t : ByteArray} {bad bad' : Bool} (h : RdAt w c t bad') (hr : RdTo w b s bad w') (hne : c ≠ b) : RdAt w' c t bad' := by
  have e := hr.oth _ h.lt hne
  exact ⟨by rw [cell_of_heap11 e]; exact h.c0, by rw [cell_of_heap11 e]; exact h.c1, by rw [frozen_of_heap e]; exact h.f0, by rw [frozen_of_heap e]; exact h.f1, Nat.lt_of_lt_of_le h.lt hr.size⟩
theorem new_any (s : ByteArray) (w : World) : Calls Tryz.prog 126 #[.string s] w fun e w' => e = .returned (.pointer (some ⟨w.heap.size, 0, none⟩)) ∧ w' = w.alloc (.cells #[.string s, .bool false] 165) := by
  go_enter Tryz.func126, Tryz.ntmps126
  go_wp2
  go_ret
  exact ⟨rfl, rfl⟩
/-- May n bytes be taken? -/
def rdy (s : ByteArray) (bad : Bool) (n : Int) (al : Bool) : Bool := !bad && (al && decide (n ≤ (s.size : Int)))
set_option maxHeartbeats 1000000 in
theorem ready_any (b : Nat) (s : ByteArray) (bad : Bool) (n : Int) (al : Bool) (w : World) (h : RdAt w b s bad) :
    Calls Tryz.prog 138 #[.pointer (some ⟨b, 0, none⟩), .int .i64 n, .bool al] w fun e w' => e = .returned (.bool (rdy s bad n al)) ∧ w' = w.setCell ⟨b, 1, none⟩ (.bool (!rdy s bad n al)) := by
  have c0 := h.c0
  have c1 := h.c1
  have f1 := h.f1
  have hs : (w.setCell ⟨b, 1, none⟩ (.bool (!rdy s bad n al))).cell? ⟨b, 1, none⟩ = some (.bool (!rdy s bad n al)) := World.cell?_setCell_same' w _ _ (by rw [c1]; rfl)
  cases bad with
  | true =>
    have hz : Hid (rdy s true n al = false) := Lib.hid rfl
    rw [hz.out] at hs
    go_enter Tryz.func138, Tryz.ntmps138
    go_wp2
    go_ret
    exact ⟨by rw [hz.out]; rfl, by rw [hz.out]; rfl⟩
  | false =>
    cases al with
    | false =>
      have hz : Hid (rdy s false n false = false) := Lib.hid rfl
      rw [hz.out] at hs
      go_enter Tryz.func138, Tryz.ntmps138
      go_wp2
      go_ret
      exact ⟨by rw [hz.out]; rfl, by rw [hz.out]; rfl⟩
    | true =>
      by_cases hn : n ≤ (s.size : Int)
      · have t : decide ((s.size : Int) < n) = false := by rw [decide_eq_false_iff_not]; omega
        have hz : Hid (rdy s false n true = true) := Lib.hid (by unfold rdy; rw [decide_eq_true hn]; rfl)
        rw [hz.out] at hs
        clear hn
        go_enter Tryz.func138, Tryz.ntmps138
        go_wp2
        go_ret
        exact ⟨by rw [hz.out]; rfl, by rw [hz.out]; rfl⟩
      · have t : decide ((s.size : Int) < n) = true := by rw [decide_eq_true_eq]; omega
        have hz : Hid (rdy s false n true = false) := Lib.hid (by unfold rdy; rw [decide_eq_false hn]; rfl)
        rw [hz.out] at hs
        clear hn
        go_enter Tryz.func138, Tryz.ntmps138
        go_wp2
        go_ret
        exact ⟨by rw [hz.out]; rfl, by rw [hz.out]; rfl⟩
def zeroB (s : ByteArray) : Bool := s.data.toList.all (· == 0)
theorem trim_zero (l : List UInt8) : ((⟨(Lib.trimB l 0).toArray⟩ : ByteArray).toList == []) = l.all (· == 0) := by
  rw [Lib.toList_data]
  simp only [Lib.trimB, Lib.trimLeftB, Lib.trimRightB, List.toList_toArray]
  rw [Bool.eq_iff_iff, beq_iff_eq, List.all_eq_true]
  have key : ∀ m : List UInt8, m.dropWhile (· == 0) = [] ↔ ∀ x ∈ m, (x == 0) = true := fun m => by
    induction m with
    | nil => simp
    | cons a m ih =>
      rw [List.dropWhile_cons]
      by_cases e : (a == 0) = true
      · rw [if_pos e, ih]
        constructor
        · intro h x hx
          rcases List.mem_cons.1 hx with rfl | hx
          · exact e
          · exact h x hx
        · exact fun h x hx => h x (List.mem_cons_of_mem _ hx)
      · rw [if_neg e]
        constructor
        · intro h; cases h
        · intro h; exact absurd (h a List.mem_cons_self) e
  constructor
  · intro h
    have h1 := (key _).1 h
    have h2 : (l.reverse.dropWhile (· == 0)) = [] := by
      cases hd : l.reverse.dropWhile (· == 0) with
      | nil => rfl
      | cons a m =>
        have ha : (a == 0) = true := h1 a (by rw [hd]; simp)
        have := List.head?_dropWhile_not (p := (· == 0)) l.reverse
        rw [hd] at this
        simp [ha] at this
    have h3 := (key _).1 h2
    exact fun x hx => h3 x (by simpa using hx)
  · intro h
    have h2 : l.reverse.dropWhile (· == 0) = [] := (key _).2 fun x hx => h x (by simpa using hx)
    rw [h2]; rfl
def DrewR (w : World) (v : Value) (e : Ending) (w' : World) : Prop := e = .returned v ∧ ∃ n, w' = w.drewN n
set_option maxHeartbeats 1000000 in
theorem ends_any (b : Nat) (s : ByteArray) (bad : Bool) (w : World) (h : RdAt w b s bad) (hs : s.size ≤ 140737488355328) : Calls Tryz.prog 129 #[.pointer (some ⟨b, 0, none⟩)] w (DrewR w (.bool (!bad && zeroB s))) := by
  have c0 := h.c0
  have c1 := h.c1
  cases bad with
  | true =>
    go_enter Tryz.func129, Tryz.ntmps129
    go_wp2
    go_ret
    exact ⟨rfl, 0, rfl⟩
  | false =>
    have ht := Tryz.strings_Trim_one s 0 (by decide) w (by omega)
    have hz := trim_zero s.data.toList
    rw [show s.data.toList.all (· == 0) = (!false && zeroB s) from rfl] at hz
    generalize (!false && zeroB s) = z at *
    generalize (⟨(Lib.trimB s.data.toList 0).toArray⟩ : ByteArray) = u at *
    go_enter Tryz.func129, Tryz.ntmps129
    go_wp2_with (fail)
    refine ht.mono ?_
    rintro e w' ⟨rfl, hw⟩
    go_wp2_with (fail)
    go_ret
    exact ⟨rfl, by rcases hw with rfl | rfl; exact ⟨0, rfl⟩; exact ⟨1, rfl⟩⟩
end Go.Proofs.YtfadglcpapiklaaGreatDoor
end
section
namespace Go.Proofs.YtfadglcpapiklaaGreatDoor
open Go.RowKit
set_option linter.unusedVariables false
set_option linter.unusedSimpArgs false

def okT (s : ByteArray) (bad : Bool) (n : Int) : Bool := !bad && decide (0 ≤ n ∧ n ≤ (s.size : Int))
def txtS (s : ByteArray) (bad : Bool) (n : Int) : ByteArray := if okT s bad n then s.extract 0 n.toNat else ⟨#[]⟩
def txtR (s : ByteArray) (bad : Bool) (n : Int) : ByteArray := if okT s bad n then s.extract n.toNat s.size else s
def okN (s : ByteArray) (bad : Bool) (n : Int) : Bool := !bad && decide (1 ≤ n ∧ n ≤ 7 ∧ n ≤ (s.size : Int))
def numV (s : ByteArray) (bad : Bool) (n : Int) : Nat := if okN s bad n then Pk.val (s.extract 0 n.toNat).data.toList else 0
def numR (s : ByteArray) (bad : Bool) (n : Int) : ByteArray := if okN s bad n then s.extract n.toNat s.size else s
def Takes (w : World) (b : Nat) (v : Value) (s : ByteArray) (bad : Bool) (e : Ending) (w' : World) : Prop := e = .returned v ∧ RdTo w b s bad w'
theorem from_run {P : Program} {T : TypeId} (hT : P.underlying T = some .string) (s : ByteArray) (a : Nat) (h1 : a ≤ s.size) (W : World) :
    (Instr.slice T (.string s) (some (.int .i64 (a : Int))) none none).run P W = .ok (.string (s.extract a s.size)) W := by
  simp [Instr.slice, run_underlying hT, Instr.sliceBounds, Instr.sliceBound, asIntOf, h1]
theorem to_run {P : Program} {T : TypeId} (hT : P.underlying T = some .string) (s : ByteArray) (b : Nat) (h2 : b ≤ s.size) (W : World) :
    (Instr.slice T (.string s) none (some (.int .i64 (b : Int))) none).run P W = .ok (.string (s.extract 0 b)) W := by
  simp [Instr.slice, run_underlying hT, Instr.sliceBounds, Instr.sliceBound, asIntOf, h2]
end Go.Proofs.YtfadglcpapiklaaGreatDoor
end
section
namespace Go.Proofs.YtfadglcpapiklaaGreatDoor
open Go.RowKit Go.Shelf
set_option linter.unusedVariables false
set_option linter.unusedSimpArgs false
attribute [local go_sem] Oper.semAt_some

theorem take_any (b : Nat) (n : Int) (w : World) : Calls Tryz.prog 139 #[.pointer (some ⟨b, 0, none⟩), .int .i64 n] w fun e w' =>
    e = .returned (.func (.func 150) #[] #[.pointer (some ⟨w.heap.size + 1, 0, none⟩), .pointer (some ⟨w.heap.size, 0, none⟩)]) ∧ w' = (w.alloc (.cells #[.pointer (some ⟨b, 0, none⟩)] 157)).alloc (.cells #[.int .i64 n] 3) := by
  go_enter Tryz.func139, Tryz.ntmps139
  go_wp2
  go_ret
  exact ⟨rfl, rfl⟩
/-- What the iterator reads: i bytes are taken. -/
structure TkAt (b Bn Br : Nat) (s : ByteArray) (k : Nat) (i : Nat) (W : World) : Prop where
  c : W.cell? ⟨b, 0, none⟩ = some (.string (s.extract i s.size))
  f : W.frozen? ⟨b, 0, none⟩ = false
  r : W.cell? ⟨Br, 0, none⟩ = some (.pointer (some ⟨b, 0, none⟩))
  n : W.cell? ⟨Bn, 0, none⟩ = some (.int .i64 (k : Int))
def byteAt (s : ByteArray) (i : Nat) : UInt8 := s.data.toList.getD i 0
theorem rest_facts (s : ByteArray) (i : Nat) (h : i < s.size) : ∃ h0 : 0 < (s.extract i s.size).size, (s.extract i s.size)[0] = byteAt s i ∧ (s.extract i s.size).extract 1 (s.extract i s.size).size = s.extract (i + 1) s.size ∧ 1 ≤ (s.extract i s.size).size ∧ (s.extract i s.size).size ≤ s.size := by
  have hz : (s.extract i s.size).size = s.size - i := by simp [ByteArray.size_extract]
  refine ⟨by omega, ?_, ?_, by omega, by omega⟩
  · rw [ByteArray.getElem_extract]
    unfold byteAt
    rw [List.getD_eq_getElem?_getD, List.getElem?_eq_getElem (by simpa using h)]
    rfl
  · rw [ByteArray.extract_extract]
    congr 1 <;> omega
set_option maxRecDepth 100000 in
set_option maxHeartbeats 2000000 in
theorem take_it (n : Nat) (hn : 1 ≤ n) (l b Bn Br : Nat) (s : ByteArray) (k : Nat) (hk : k ≤ s.size) (hs : s.size ≤ 140737488355328) (hne : b ≠ Br) (hne2 : b ≠ Bn) (K : World → Prop) (C : Nat → World → Prop)
    (hst : ∀ i W, i < k → TkAt b Bn Br s k i W → C i W → K W → C i (W.setCell ⟨b, 0, none⟩ (.string (s.extract (i + 1) s.size))).drew ∧ K (W.setCell ⟨b, 0, none⟩ (.string (s.extract (i + 1) s.size))).drew)
    (hY : ∀ i W1, i < k → TkAt b Bn Br s k (i + 1) W1 → C i W1 → K W1 → YieldAt Fence.wide (n - 1) Tryz.prog l #[.int .u8 (((byteAt s i).toNat : Nat) : Int)] W1 fun e W' => e = .returned (.bool true) ∧ TkAt b Bn Br s k (i + 1) W' ∧ C (i + 1) W' ∧ K W')
    (W : World) (h0 : TkAt b Bn Br s k 0 W) (hC : C 0 W) (hK : K W) :
    CallsIn Fence.wide n Tryz.prog 150 #[.func (.yield l) #[] #[], .pointer (some ⟨Bn, 0, none⟩), .pointer (some ⟨Br, 0, none⟩)] W fun e W' => (∃ v, e = .returned v) ∧ TkAt b Bn Br s k k W' ∧ C k W' ∧ K W' := by
  refine callsIn_of_wp Tryz.func150 rfl trivial ?_ rfl
  simp only [Tryz.ntmps150, List.size_toArray, List.length_cons, List.length_nil, Nat.reduceAdd, Nat.reduceSub, Array.replicate_succ, Array.replicate_zero, List.push_toArray, List.append_toArray, List.nil_append, List.cons_append]
  have hcn := h0.n
  have hk2 : (k : Int) ≤ 140737488355328 := by omega
  gi_wp2
  gi_loopw [6] (fun i wr => ∃ q : Nat, q ≤ k ∧ i = .int .i64 (q : Int) ∧ TkAt b Bn Br s k q wr ∧ C q wr ∧ K wr) (fun i _ => k - (RowKit.intOf i).toNat)
  case atStart => exact ⟨0, by omega, rfl, h0, hC, hK⟩
  case round =>
    obtain ⟨q, hq, rfl, hT, hCq, hKq⟩ := hrel
    by_cases hlt : q < k
    · have b1 : (q : Int) < (k : Int) := by omega
      obtain ⟨z0, z1, z2, z3, z4⟩ := rest_facts s q (by omega)
      have g2 := fun W => from_run (P := Tryz.prog) (T := 9) Tryz.underlying9 (s.extract q s.size) 1 z3 W
      rw [z2, show ((1 : Nat) : Int) = 1 from rfl] at g2
      obtain ⟨s1, s2⟩ := hst q wr hlt hT hCq hKq
      have hT2 : TkAt b Bn Br s k (q + 1) (wr.setCell ⟨b, 0, none⟩ (.string (s.extract (q + 1) s.size))).drew :=
        ⟨World.cell?_setCell_same' wr _ _ (by rw [hT.c]; rfl), by show (wr.setCell _ _).frozen? _ = false; rw [World.frozen?_setCell]; exact hT.f, by show (wr.setCell _ _).cell? _ = _; rw [World.cell?_setCell_other wr _ _ _ (fun e => hne (congrArg Addr.block e))]; exact hT.r, by show (wr.setCell _ _).cell? _ = _; rw [World.cell?_setCell_other wr _ _ _ (fun e => hne2 (congrArg Addr.block e))]; exact hT.n⟩
      obtain ⟨fn, tmps, assign, body, hy, hR⟩ := hY q _ hlt hT2 s1 s2
      have c0 := hT.c
      have f0 := hT.f
      have r0 := hT.r
      clear z2 hst hY h0 hC hK hT hCq hKq hT2 s1 s2
      generalize s.extract q s.size = rest at *
      generalize s.extract (q + 1) s.size = rest2 at *
      generalize byteAt s q = x at *
      gi_wp2
      gi_region
      all_goals
        gi_wp2
        refine hR.mono ?_
        rintro e W3 ⟨rfl, hT3, hC3, hK3⟩
        gi_wp2
        go_roundw
        case rel => exact ⟨q + 1, by omega, by go_num, hT3, hC3, hK3⟩
        case measure => simp [RowKit.intOf]; omega
    · have e : q = k := by omega
      subst e
      gi_wp2
      go_end0
      exact ⟨⟨_, rfl⟩, hT, hCq, hKq⟩
end Go.Proofs.YtfadglcpapiklaaGreatDoor
end
section
namespace Go.Proofs.YtfadglcpapiklaaGreatDoor
open Go.RowKit Go.Shelf
set_option linter.unusedVariables false
set_option linter.unusedSimpArgs false
attribute [local go_sem] Oper.semAt_some

/-- All that lay in w but block b lies in W as it lay; the reader there is not bad. -/
structure KO (w : World) (b : Nat) (W : World) : Prop where
  keep : ∀ B, B ≤ b → B ≤ w.heap.size → Below B w W
  oth : ∀ k, k < w.heap.size → k ≠ b → W.heap[k]? = w.heap[k]?
  c1 : W.cell? ⟨b, 1, none⟩ = some (.bool false)
  f1 : W.frozen? ⟨b, 1, none⟩ = false
  lt : b < w.heap.size
theorem KO.size {w W : World} {b : Nat} (h : KO w b W) : w.heap.size ≤ W.heap.size := (h.keep 0 (Nat.zero_le _) (Nat.zero_le _)).size
theorem KO.of {w W : World} {b : Nat} {s : ByteArray} (h : RdTo w b s false W) (hb : b < w.heap.size) : KO w b W := ⟨h.keep, h.oth, h.r.c1, h.r.f1, hb⟩
theorem KO.to {w W : World} {b : Nat} {s : ByteArray} (h : KO w b W) (c : W.cell? ⟨b, 0, none⟩ = some (.string s)) (f : W.frozen? ⟨b, 0, none⟩ = false) : RdTo w b s false W := ⟨h.keep, h.oth, ⟨c, h.c1, f, h.f1, Nat.lt_of_lt_of_le h.lt h.size⟩⟩
theorem KO.alloc {w W : World} {b : Nat} (h : KO w b W) (o : Obj) : KO w b (W.alloc o) := by
  have hx := (Below.refl W.heap.size W).alloc (Nat.le_refl _) o
  have hl := Nat.lt_of_lt_of_le h.lt h.size
  exact ⟨fun B h1 h2 => (h.keep B h1 h2).trans (hx.mono (Nat.le_trans h2 h.size)), fun k hk hne => (hx.block k (Nat.lt_of_lt_of_le hk h.size)).trans (h.oth k hk hne), by rw [hx.cell (p := ⟨b, 1, none⟩) hl]; exact h.c1, by rw [hx.frozen (p := ⟨b, 1, none⟩) hl]; exact h.f1, h.lt⟩
theorem KO.drew {w W : World} {b : Nat} (h : KO w b W) : KO w b W.drew :=
  ⟨fun B h1 h2 => (h.keep B h1 h2).trans ⟨rfl, rfl, rfl, Nat.le_refl _, fun _ _ => rfl⟩, h.oth, h.c1, h.f1, h.lt⟩
theorem KO.set0 {w W : World} {b : Nat} (h : KO w b W) (v : Value) : KO w b (W.setCell ⟨b, 0, none⟩ v) :=
  ⟨fun B h1 h2 => (h.keep B h1 h2).setCell (p := ⟨b, 0, none⟩) h1 _, fun k hk hne => (Below.heap_setCell _ _ _ _ (by simpa using hne)).trans (h.oth k hk hne), by rw [World.cell?_setCell_other W _ _ _ (by simp)]; exact h.c1, by rw [World.frozen?_setCell]; exact h.f1, h.lt⟩
theorem KO.setNew {w W : World} {b g o : Nat} (h : KO w b W) (hg : w.heap.size ≤ g) (v : Value) : KO w b (W.setCell ⟨g, o, none⟩ v) := by
  have hne : g ≠ b := by have := h.lt; omega
  exact ⟨fun B h1 h2 => (h.keep B h1 h2).setCell (p := ⟨g, o, none⟩) (Nat.le_trans h2 hg) _, fun k hk hn => (Below.heap_setCell _ _ _ _ (by show k ≠ g; omega)).trans (h.oth k hk hn), by rw [World.cell?_setCell_other W _ _ _ (fun e => hne (congrArg Addr.block e))]; exact h.c1, by rw [World.frozen?_setCell]; exact h.f1, h.lt⟩
theorem KO.grown {w W W' : World} {b B : Nat} {row : Option Nat} (hs : KO w b W) (hB : w.heap.size ≤ B) (hg : W.grownBy W' row) (hr : ∀ r, row = some r → B ≤ r ∧ ∃ o : Obj, W.heap[r]? = some o ∧ o.isCells = false) : KO w b W' :=
  ⟨fun B' h1 h2 => (hs.keep B' h1 h2).grown hg (Nat.le_trans h2 hs.size) (fun k e => Nat.le_trans (Nat.le_trans h2 hB) (hr k e).1),
    fun k hk hne => (hg.block k (Nat.lt_of_lt_of_le hk hs.size) (fun e => by have := (hr k e.symm).1; omega)).trans (hs.oth k hk hne),
    cell_kept hs.c1 hg (fun r e => (hr r e).2), (frozen_kept hs.c1 hg (fun r e => (hr r e).2)).trans hs.f1, hs.lt⟩
theorem TkAt.grown {b Bn Br k i : Nat} {s : ByteArray} {W W' : World} {row : Option Nat} (hs : TkAt b Bn Br s k i W) (hg : W.grownBy W' row) (hr : ∀ r, row = some r → ∃ o : Obj, W.heap[r]? = some o ∧ o.isCells = false) : TkAt b Bn Br s k i W' :=
  ⟨cell_kept hs.c hg hr, (frozen_kept hs.c hg hr).trans hs.f, cell_kept hs.r hg hr, cell_kept hs.n hg hr⟩
theorem TkAt.setNew {b Bn Br k i g o : Nat} {s : ByteArray} {W : World} (hs : TkAt b Bn Br s k i W) (h1 : g ≠ b) (h2 : g ≠ Br) (h3 : g ≠ Bn) (v : Value) : TkAt b Bn Br s k i (W.setCell ⟨g, o, none⟩ v) :=
  ⟨by rw [World.cell?_setCell_other W _ _ _ (fun e => h1 (congrArg Addr.block e))]; exact hs.c, by rw [World.frozen?_setCell]; exact hs.f, by rw [World.cell?_setCell_other W _ _ _ (fun e => h2 (congrArg Addr.block e))]; exact hs.r, by rw [World.cell?_setCell_other W _ _ _ (fun e => h3 (congrArg Addr.block e))]; exact hs.n⟩
/-- A variable in a box. -/
structure Bx (g : Nat) (v : Value) (W : World) : Prop where
  c : W.cell? ⟨g, 0, none⟩ = some v
  f : W.frozen? ⟨g, 0, none⟩ = false
theorem Bx.grown {g : Nat} {v : Value} {W W' : World} {row : Option Nat} (hs : Bx g v W) (hg : W.grownBy W' row) (hr : ∀ r, row = some r → ∃ o : Obj, W.heap[r]? = some o ∧ o.isCells = false) : Bx g v W' := ⟨cell_kept hs.c hg hr, (frozen_kept hs.c hg hr).trans hs.f⟩
theorem Bx.other {g k o : Nat} {u v : Value} {W : World} (hs : Bx g v W) (h : k ≠ g) : Bx g v (W.setCell ⟨k, o, none⟩ u) := ⟨by rw [World.cell?_setCell_other W _ _ _ (fun e => h (congrArg Addr.block e))]; exact hs.c, by rw [World.frozen?_setCell]; exact hs.f⟩
theorem Bx.set {g : Nat} {u v : Value} {W : World} (hs : Bx g v W) : Bx g u (W.setCell ⟨g, 0, none⟩ u) := ⟨World.cell?_setCell_same' W _ _ (by rw [hs.c]; rfl), by rw [World.frozen?_setCell]; exact hs.f⟩
theorem lt_of_cell {W : World} {a : Addr} {v : Value} (h : W.cell? a = some v) : a.block < W.heap.size := by
  obtain ⟨o, ho, _⟩ := cells_of_cell h
  exact (Array.getElem?_eq_some_iff.1 ho).1
theorem cell_alloc_l {W : World} {a : Addr} {v : Value} (o : Obj) (h : W.cell? a = some v) : (W.alloc o).cell? a = some v := by
  rw [((Below.refl W.heap.size W).alloc (Nat.le_refl _) o).cell (lt_of_cell h)]; exact h
theorem frozen_alloc_l {W : World} {a : Addr} {v : Value} (o : Obj) (h : W.cell? a = some v) (hf : W.frozen? a = false) : (W.alloc o).frozen? a = false := by
  rw [((Below.refl W.heap.size W).alloc (Nat.le_refl _) o).frozen (lt_of_cell h)]; exact hf
theorem cell_new_l (W : World) (v : Value) (T : TypeId) : (W.alloc (.cells #[v] T)).cell? ⟨W.heap.size, 0, none⟩ = some v ∧ (W.alloc (.cells #[v] T)).frozen? ⟨W.heap.size, 0, none⟩ = false :=
  ⟨by rw [World.cell?_alloc_mark]; rfl, frozen_of_row _ _ _ _ _ (heap_alloc_new _ _)⟩
theorem Bx.alloc {g : Nat} {v : Value} {W : World} (hs : Bx g v W) (o : Obj) : Bx g v (W.alloc o) := ⟨cell_alloc_l _ hs.c, frozen_alloc_l _ hs.c hs.f⟩
theorem Bx.new (W : World) (v : Value) (T : TypeId) : Bx W.heap.size v (W.alloc (.cells #[v] T)) := ⟨(cell_new_l W v T).1, (cell_new_l W v T).2⟩
theorem Bx.drew {g : Nat} {v : Value} {W : World} (hs : Bx g v W) : Bx g v W.drew := ⟨hs.c, hs.f⟩
theorem or64 (q x : Nat) (h1 : q < 281474976710656) (h2 : x < 256) : bits .or .i64 (wrap64 ((q : Int) * 256)) (wrap64 (x : Int)) = ((256 * q + x : Nat) : Int) := by
  have w1 : wrap64 ((q : Int) * 256) = ((q * 256 : Nat) : Int) := by rw [IntWalk.wrap64_in _ ⟨by omega, by omega⟩, Int.natCast_mul]; rfl
  have w2 : wrap64 (x : Int) = ((x : Nat) : Int) := IntWalk.wrap64_in _ ⟨by omega, by omega⟩
  have hl : q * 256 ||| x = 256 * q + x := by
    have := Nat.shiftLeft_add_eq_or_of_lt (b := x) (i := 8) (by omega) q
    rw [Nat.shiftLeft_eq, show (2 : Nat) ^ 8 = 256 from rfl] at this
    omega
  have e : (BitVec.ofNat 64 (q * 256) ||| BitVec.ofNat 64 x).toNat = 256 * q + x := by
    rw [BitVec.toNat_or, BitVec.toNat_ofNat, BitVec.toNat_ofNat, Nat.mod_eq_of_lt (by omega), Nat.mod_eq_of_lt (by omega), hl]
  have e2 : bits .or .i64 ((q * 256 : Nat) : Int) (x : Int) = IntKind.i64.wrap (((BitVec.ofNat 64 (q * 256) ||| BitVec.ofNat 64 x).toNat : Nat) : Int) := by
    have ea : BitVec.ofInt 64 ((q * 256 : Nat) : Int) = BitVec.ofNat 64 (q * 256) := BitVec.ofInt_natCast 64 _
    have eb : BitVec.ofInt 64 (x : Int) = BitVec.ofNat 64 x := BitVec.ofInt_natCast 64 x
    rw [← ea, ← eb]; rfl
  rw [w1, w2, e2, e]
  exact IntWalk.i64_in _ ⟨by omega, by omega⟩
theorem byte_take (s : ByteArray) (i : Nat) (h : i < s.size) : s.data.toList.take (i + 1) = s.data.toList.take i ++ [byteAt s i] := by
  have h' : i < s.data.toList.length := by simpa using h
  rw [List.take_succ_eq_append_getElem h', byteAt, List.getD_eq_getElem?_getD, List.getElem?_eq_getElem h']; rfl
set_option maxRecDepth 100000 in
set_option maxHeartbeats 4000000 in
theorem rdnum_right (b : Nat) (s : ByteArray) (k : Nat) (w : World) (h : RdAt w b s false) (h1 : 1 ≤ k) (h7 : k ≤ 7) (hk : k ≤ s.size) (hs : s.size ≤ 140737488355328) :
    Calls Tryz.prog 128 #[.pointer (some ⟨b, 0, none⟩), .int .i64 (k : Int)] w (Takes w b (.int .i64 ((Pk.val (s.data.toList.take k) : Nat) : Int)) (s.extract k s.size) false) := by
  have hrd := ready_any b s false (k : Int) true w h
  have hrt : rdy s false (k : Int) true = true := by unfold rdy; rw [decide_eq_true (by omega)]; rfl
  rw [hrt] at hrd
  have t1 : decide (1 ≤ (k : Int)) = true := by rw [decide_eq_true_eq]; omega
  have t2 : decide ((k : Int) ≤ 7) = true := by rw [decide_eq_true_eq]; omega
  clear hrt
  refine callsIn_wide.1 (callsIn_of_wp_marks (n := 6) Tryz.func128 rfl trivial ?_ rfl)
  simp only [Tryz.ntmps128, List.size_toArray, List.length_cons, List.length_nil, Nat.reduceAdd, Nat.reduceSub, Array.replicate_succ, Array.replicate_zero, List.push_toArray, List.append_toArray, List.nil_append, List.cons_append]
  gi_wp2_with (fail)
  refine ⟨trivial, (callsIn_wide.2 hrd).mono ?_⟩
  rintro e w1 ⟨rfl, hw⟩
  have hK1 : KO w b w1 := by rw [hw]; exact KO.of (h.set1 false) h.lt
  have hc1 : w1.cell? ⟨b, 0, none⟩ = some (.string s) := by rw [hw]; exact (h.set1 false).r.c0
  have hf1 : w1.frozen? ⟨b, 0, none⟩ = false := by rw [hw]; exact (h.set1 false).r.f0
  have hlt := h.lt
  have hsz := hK1.size
  clear hw hrd h
  gi_wp2_with (fail)
  refine ⟨trivial, (callsIn_wide.2 (take_any b (k : Int) _)).mono ?_⟩
  rintro e w2 ⟨rfl, hw2⟩
  obtain ⟨g, hg⟩ : ∃ g, w1.heap.size = g := ⟨_, rfl⟩
  have hK2 : KO w b w2 := by rw [hw2]; exact ((hK1.alloc _).alloc _).alloc _
  have hX2 : Bx g (.int .i64 0) w2 := by rw [hw2, ← hg]; exact ((Bx.new w1 _ _).alloc _).alloc _
  have hR2 : Bx (g + 1) (.pointer (some ⟨b, 0, none⟩)) w2 := by
    rw [hw2, ← hg, show w1.heap.size + 1 = (w1.alloc (.cells #[.int .i64 0] 3)).heap.size by simp]; exact (Bx.new _ _ _).alloc _
  have hN2 : Bx (g + 1 + 1) (.int .i64 (k : Int)) w2 := by
    rw [hw2, ← hg, show w1.heap.size + 1 + 1 = ((w1.alloc (.cells #[.int .i64 0] 3)).alloc (.cells #[.pointer (some ⟨b, 0, none⟩)] 157)).heap.size by simp]; exact Bx.new _ _ _
  have hC2 : w2.cell? ⟨b, 0, none⟩ = some (.string s) := by rw [hw2]; exact cell_alloc_l _ (cell_alloc_l _ (cell_alloc_l _ hc1))
  have hF2 : w2.frozen? ⟨b, 0, none⟩ = false := by rw [hw2]; exact frozen_alloc_l _ (cell_alloc_l _ (cell_alloc_l _ hc1)) (frozen_alloc_l _ (cell_alloc_l _ hc1) (frozen_alloc_l _ hc1 hf1))
  have hz2 : g + 1 + 1 < w2.heap.size := by rw [hw2, ← hg]; simp
  have hbg : b < g := by omega
  have hwg : w.heap.size ≤ g := by omega
  have hT2 : TkAt b (g + 1 + 1) (g + 1) s k 0 w2 := ⟨by rw [show s.extract 0 s.size = s by simp]; exact hC2, hF2, hR2.c, hN2.c⟩
  rw [hg]
  clear hw2 hK1 hc1 hf1 hsz
  gi_wp2
  clear hg
  refine range_goes rfl (by decide) (gf := 150) (lb := #[.pointer (some ⟨g + 1 + 1, 0, none⟩), .pointer (some ⟨g + 1, 0, none⟩)]) rfl trivial (enters_of Tryz.func150 (by kernel_rfl) rfl)
    k (fun i => #[.int .u8 (((byteAt s i).toNat : Nat) : Int)]) (fun _ => rfl)
    (fun i W => TkAt b (g + 1 + 1) (g + 1) s k i W ∧ KO w b W ∧ Bx g (.int .i64 ((Pk.val (s.data.toList.take i) : Nat) : Int)) W)
    (fun i W => TkAt b (g + 1 + 1) (g + 1) s k (i + 1) W ∧ KO w b W ∧ Bx g (.int .i64 ((Pk.val (s.data.toList.take i) : Nat) : Int)) W)
    (fun i W W' row h hg hr => ⟨h.1.grown hg (fun r e => (hr r e).2), h.2.1.grown (by omega) hg hr, h.2.2.grown hg (fun r e => (hr r e).2)⟩)
    (fun i W W' row h hg hr => ⟨h.1.grown hg (fun r e => (hr r e).2), h.2.1.grown (by omega) hg hr, h.2.2.grown hg (fun r e => (hr r e).2)⟩)
    ⟨hT2, hK2, hX2⟩
    (fun i => { tmps := #[.pointer (some ⟨b, 0, none⟩), .int .i64 (k : Int), undef, undef, .int .i64 0, .pointer (some ⟨g, 0, none⟩), .int .u8 (((byteAt s i).toNat : Nat) : Int), .pointer (some ⟨b, 0, none⟩), .int .i64 (k : Int), .int .i64 (k : Int), .bool true, .bool true, .int .i64 (k : Int), .bool true, .bool true, .bool true, .bool false, .pointer (some ⟨b, 0, none⟩), .int .i64 (k : Int), .func (.func 150) #[] #[.pointer (some ⟨g + 1 + 1, 0, none⟩), .pointer (some ⟨g + 1, 0, none⟩)], .int .u8 (((byteAt s i).toNat : Nat) : Int), undef, undef, undef, undef, undef, undef], defers := [] })
    ?assign ?body ?iter ?done
  case assign =>
    intro l i W K hK
    gi_wp2
    exact hK
  case body =>
    rintro l i W hi ⟨hT, hK, hX⟩
    have hxc := hX.c
    have hxf := hX.f
    gi_wp2
    have hvl : (s.data.toList.take i).length ≤ 6 := by rw [List.length_take]; omega
    have hv2 : Pk.val (s.data.toList.take i) < 281474976710656 := Nat.lt_of_lt_of_le (Pk.val_lt _) (Nat.pow_le_pow_right (by decide) hvl)
    have hval : Pk.val (s.data.toList.take (i + 1)) = 256 * Pk.val (s.data.toList.take i) + (byteAt s i).toNat := by rw [byte_take s i (by omega), Pk.val_snoc]
    rw [or64 _ _ hv2 (UInt8.toNat_lt _), ← hval]
    exact ⟨(KeepsOthers.setCell _ _ _).from _, hT.setNew (by omega) (by omega) (by omega) _, hK.setNew hwg _, hX.set⟩
  case iter =>
    intro l K W hKp hI0 hK hY
    exact (take_it (6 - 1) (by decide) l b (g + 1 + 1) (g + 1) s k hk hs (by omega) (by omega) K (fun i W => KO w b W ∧ Bx g (.int .i64 ((Pk.val (s.data.toList.take i) : Nat) : Int)) W)
      (fun i W hi hT hC hK => ⟨⟨(hC.1.set0 _).drew, (hC.2.other (by omega)).drew⟩, hKp _ _ (((KeepsOthers.setCell _ _ _).trans (KeepsOthers.drew _)).from _) hK⟩)
      (fun i W1 hi hT hC hK => YieldAt.mono (hY i W1 hi ⟨hT, hC.1, hC.2⟩ hK) (fun e W' h => ⟨h.1, h.2.1.1, ⟨h.2.1.2.1, h.2.1.2.2⟩, h.2.2⟩))
      W hI0.1 ⟨hI0.2.1, hI0.2.2⟩ hK).mono (fun e W' h => ⟨h.1, ⟨h.2.1, h.2.2.1.1, h.2.2.1.2⟩, h.2.2.2⟩)
  case done =>
    rintro D W hD ⟨hT, hK, hX⟩ hd
    have hxc := hX.c
    gi_wp2
    have hr : ∀ r, some D = some r → w2.heap.size ≤ r ∧ ∃ o : Obj, W.heap[r]? = some o ∧ o.isCells = false := fun r e => by cases e; exact ⟨hD, _, hd, rfl⟩
    have hg := grownBy_putObj' W D (.deferred none)
    have hT' := hT.grown hg (fun r e => (hr r e).2)
    refine ⟨by simp, .inl ⟨_, _, rfl, run_takeDeferred hd, ?_⟩⟩
    exact ⟨_, results_tmp rfl _ _ _, rfl, (hK.grown (by omega) hg hr).to hT'.c hT'.f⟩
end Go.Proofs.YtfadglcpapiklaaGreatDoor
end
section
namespace Go.Proofs.YtfadglcpapiklaaGreatDoor
open Go.RowKit Go.Shelf
set_option linter.unusedVariables false
set_option linter.unusedSimpArgs false
attribute [local go_sem] Oper.semAt_some

theorem KO.grow {w W W' : World} {b : Nat} {row : Option Nat} (hs : KO w b W) (hg : W.grownBy W' row) (hr : ∀ r, row = some r → w.heap.size ≤ r) : KO w b W' := by
  have hb : W'.heap[b]? = W.heap[b]? := hg.block b (Nat.lt_of_lt_of_le hs.lt hs.size) (fun e => by have := hr b e.symm; have := hs.lt; omega)
  exact ⟨fun B' h1 h2 => (hs.keep B' h1 h2).grown hg (Nat.le_trans h2 hs.size) (fun k e => Nat.le_trans h2 (hr k e)),
    fun k hk hne => (hg.block k (Nat.lt_of_lt_of_le hk hs.size) (fun e => by have := hr k e.symm; omega)).trans (hs.oth k hk hne),
    by rw [cell_of_heap11 hb]; exact hs.c1, by rw [frozen_of_heap hb]; exact hs.f1, hs.lt⟩
theorem Bx.grow {g : Nat} {v : Value} {W W' : World} {row : Option Nat} (hs : Bx g v W) (hg : W.grownBy W' row) (hr : row ≠ some g) : Bx g v W' := by
  have hb : W'.heap[g]? = W.heap[g]? := hg.block g (lt_of_cell hs.c) (fun e => hr e.symm)
  exact ⟨by rw [cell_of_heap11 hb]; exact hs.c, by rw [frozen_of_heap hb]; exact hs.f⟩
theorem TkAt.grow {b Bn Br k i : Nat} {s : ByteArray} {W W' : World} {row : Option Nat} (hs : TkAt b Bn Br s k i W) (hg : W.grownBy W' row) (h1 : row ≠ some b) (h2 : row ≠ some Br) (h3 : row ≠ some Bn) : TkAt b Bn Br s k i W' := by
  have e1 : W'.heap[b]? = W.heap[b]? := hg.block b (lt_of_cell hs.c) (fun e => h1 e.symm)
  have e2 : W'.heap[Br]? = W.heap[Br]? := hg.block Br (lt_of_cell hs.r) (fun e => h2 e.symm)
  have e3 : W'.heap[Bn]? = W.heap[Bn]? := hg.block Bn (lt_of_cell hs.n) (fun e => h3 e.symm)
  exact ⟨by rw [cell_of_heap11 e1]; exact hs.c, by rw [frozen_of_heap e1]; exact hs.f, by rw [cell_of_heap11 e2]; exact hs.r, by rw [cell_of_heap11 e3]; exact hs.n⟩
theorem TkAt.alloc {b Bn Br k i : Nat} {s : ByteArray} {W : World} (hs : TkAt b Bn Br s k i W) (o : Obj) : TkAt b Bn Br s k i (W.alloc o) := hs.grow (World.grownBy_alloc W o none) (by simp) (by simp) (by simp)
/-- A row of bytes in block G. -/
def OwnB (G : Nat) (l : List UInt8) (c : Nat) (B : Nat) (W : World) : Prop := W.ownsRow B 5 1 (.slice (some ⟨G, 0, none⟩) l.length c) l.length (l.map byteVal)
theorem OwnB.lt {G c B : Nat} {l : List UInt8} {W : World} (h : OwnB G l c B W) : G < W.heap.size := by
  rcases h.2 with ⟨e, _⟩ | ⟨g, cap, cur, e, h1, h2, _⟩
  · cases e
  · cases e; exact (Array.getElem?_eq_some_iff.1 h2).1
theorem OwnB.same {G c B : Nat} {l : List UInt8} {W W' : World} (h : OwnB G l c B W) (hb : W'.heap[G]? = W.heap[G]?) : OwnB G l c B W' := by
  refine ⟨h.1, ?_⟩
  rcases h.2 with h' | ⟨g, cap, cur, e, h1, h2, h3⟩
  · exact .inl h'
  · refine .inr ⟨g, cap, cur, e, h1, ?_, h3⟩
    cases e
    rw [hb]; exact h2
theorem OwnB.grow {G c B : Nat} {l : List UInt8} {W W' : World} {row : Option Nat} (h : OwnB G l c B W) (hg : W.grownBy W' row) (hr : row ≠ some G) : OwnB G l c B W' := h.same (hg.block G h.lt (fun e => hr e.symm))
theorem OwnB.setOther {G c B k o : Nat} {l : List UInt8} {W : World} {v : Value} (h : OwnB G l c B W) (hne : k ≠ G) : OwnB G l c B (W.setCell ⟨k, o, none⟩ v) := h.same (Below.heap_setCell _ _ _ _ (by show G ≠ k; omega))
theorem OwnB.str {G c B : Nat} {l : List UInt8} {W : World} (h : OwnB G l c B W) : (convert 113 9 (.slice (some ⟨G, 0, none⟩) l.length c)).run Tryz.prog W = .ok (.string (lineOf l)) W := by
  refine run_convert_bytes_back (P := Tryz.prog) W 113 9 5 ⟨G, 0, none⟩ c l Tryz.underlying113 Tryz.underlying5 Tryz.underlying9 (fun j hj => ?_)
  have hl : (l.map byteVal).length = l.length := by simp
  have := (Own.mk (by rw [hl]; exact h) : Own W B 5 (.slice (some ⟨G, 0, none⟩) l.length c) (l.map byteVal)).cell (i := j) (by simpa using hj)
  rw [addr_at, Nat.zero_add, this, List.getD_eq_getElem?_getD]
  simp [hj, byteVal]
theorem take_len (s : ByteArray) (k : Nat) (hk : k ≤ s.size) (i : Nat) (hi : i ≤ k) : (s.data.toList.take i).length = i := by
  have h : s.data.toList.length = s.size := by simp
  rw [List.length_take]; omega
theorem ext_take (s : ByteArray) (k : Nat) : lineOf (s.data.toList.take k) = s.extract 0 k := by
  apply Go.WideShapes.bytes_inj
  simp [lineOf, ByteArray.data_extract]
set_option maxRecDepth 100000 in
set_option maxHeartbeats 4000000 in
theorem rdtext_right (b : Nat) (s : ByteArray) (k : Nat) (w : World) (h : RdAt w b s false) (hk : k ≤ s.size) (hs : s.size ≤ 140737488355328) :
    Calls Tryz.prog 127 #[.pointer (some ⟨b, 0, none⟩), .int .i64 (k : Int)] w (Takes w b (.string (s.extract 0 k)) (s.extract k s.size) false) := by
  obtain ⟨i0, hi, hz0, hz1, hz2⟩ := info_parts Tryz.infoB
  have hrd := ready_any b s false (k : Int) true w h
  have hrt : rdy s false (k : Int) true = true := by unfold rdy; rw [decide_eq_true (by omega)]; rfl
  rw [hrt] at hrd
  have t1 : decide (0 ≤ (k : Int)) = true := by rw [decide_eq_true_eq]; omega
  clear hrt
  refine callsIn_wide.1 (callsIn_of_wp_marks (n := 6) Tryz.func127 rfl trivial ?_ rfl)
  simp only [Tryz.ntmps127, List.size_toArray, List.length_cons, List.length_nil, Nat.reduceAdd, Nat.reduceSub, Array.replicate_succ, Array.replicate_zero, List.push_toArray, List.append_toArray, List.nil_append, List.cons_append]
  gi_wp2_with (fail)
  refine ⟨trivial, (callsIn_wide.2 hrd).mono ?_⟩
  rintro e w0 ⟨rfl, hw⟩
  have hK0 : KO w b w0 := by rw [hw]; exact KO.of (h.set1 false) h.lt
  have hc0 : w0.cell? ⟨b, 0, none⟩ = some (.string s) := by rw [hw]; exact (h.set1 false).r.c0
  have hf0 : w0.frozen? ⟨b, 0, none⟩ = false := by rw [hw]; exact (h.set1 false).r.f0
  have hlt := h.lt
  clear hw hrd h
  obtain ⟨w1, hmk, hown, hgr⟩ := run_make_own (P := Tryz.prog) w0 w.heap.size 113 5 i0 (.int .u8 0) 1 Tryz.underlying113 hi hz0 hz1 .i64 .i64 k (by rw [hz2]; omega) (by unfold maxLen; omega) hK0.size
  obtain ⟨G, hG⟩ : ∃ G, w0.heap.size = G := ⟨_, rfl⟩
  have hgb := hgr.block b (Nat.lt_of_lt_of_le hlt hK0.size) (by simp)
  have hK1 : KO w b w1 := hK0.grow hgr (fun r e => by cases e)
  have hc1 : w1.cell? ⟨b, 0, none⟩ = some (.string s) := by rw [cell_of_heap11 hgb]; exact hc0
  have hf1 : w1.frozen? ⟨b, 0, none⟩ = false := by rw [frozen_of_heap hgb]; exact hf0
  have hwG : w.heap.size ≤ G := by rw [← hG]; exact hK0.size
  rw [hG] at hown
  have hO1 : OwnB G (s.data.toList.take 0) k w.heap.size w1 := hown
  have hlG : G < w1.heap.size := hO1.lt
  clear hc0 hf0 hK0 hgb hgr hown
  gi_wp2_with (fail)
  refine ⟨trivial, (callsIn_wide.2 (take_any b (k : Int) _)).mono ?_⟩
  rintro e w2 ⟨rfl, hw2⟩
  obtain ⟨g, hg⟩ : ∃ g, w1.heap.size = g := ⟨_, rfl⟩
  have hK2 : KO w b w2 := by rw [hw2]; exact ((hK1.alloc _).alloc _).alloc _
  have hO2 : OwnB G (s.data.toList.take 0) k w.heap.size w2 := by
    rw [hw2]; exact ((hO1.grow (World.grownBy_alloc _ _ none) (by simp)).grow (World.grownBy_alloc _ _ none) (by simp)).grow (World.grownBy_alloc _ _ none) (by simp)
  have hX2 : Bx g (.slice (some ⟨G, 0, none⟩) 0 k) w2 := by rw [hw2, ← hg, ← hG]; exact ((Bx.new w1 _ _).alloc _).alloc _
  have hR2 : Bx (g + 1) (.pointer (some ⟨b, 0, none⟩)) w2 := by
    rw [hw2, ← hg, show w1.heap.size + 1 = (w1.alloc (.cells #[.slice (some ⟨G, 0, none⟩) 0 k] 113)).heap.size by simp]; exact (Bx.new _ _ _).alloc _
  have hN2 : Bx (g + 1 + 1) (.int .i64 (k : Int)) w2 := by
    rw [hw2, ← hg, show w1.heap.size + 1 + 1 = ((w1.alloc (.cells #[.slice (some ⟨G, 0, none⟩) 0 k] 113)).alloc (.cells #[.pointer (some ⟨b, 0, none⟩)] 157)).heap.size by simp]; exact Bx.new _ _ _
  have hC2 : w2.cell? ⟨b, 0, none⟩ = some (.string s) := by rw [hw2]; exact cell_alloc_l _ (cell_alloc_l _ (cell_alloc_l _ hc1))
  have hF2 : w2.frozen? ⟨b, 0, none⟩ = false := by rw [hw2]; exact frozen_alloc_l _ (cell_alloc_l _ (cell_alloc_l _ hc1)) (frozen_alloc_l _ (cell_alloc_l _ hc1) (frozen_alloc_l _ hc1 hf1))
  have hz2' : g + 1 + 1 < w2.heap.size := by rw [hw2, ← hg]; simp
  have hGg : G < g := by omega
  have hbG : b < G := by omega
  have hT2 : TkAt b (g + 1 + 1) (g + 1) s k 0 w2 := ⟨by rw [show s.extract 0 s.size = s by simp]; exact hC2, hF2, hR2.c, hN2.c⟩
  clear hw2 hK1 hc1 hf1 hO1 hlG
  gi_wp2
  clear hg hG
  have hlen := take_len s k hk
  refine range_goes rfl (by decide) (gf := 150) (lb := #[.pointer (some ⟨g + 1 + 1, 0, none⟩), .pointer (some ⟨g + 1, 0, none⟩)]) rfl trivial (enters_of Tryz.func150 (by kernel_rfl) rfl)
    k (fun i => #[.int .u8 (((byteAt s i).toNat : Nat) : Int)]) (fun _ => rfl)
    (fun i W => TkAt b (g + 1 + 1) (g + 1) s k i W ∧ KO w b W ∧ Bx g (.slice (some ⟨G, 0, none⟩) i k) W ∧ OwnB G (s.data.toList.take i) k w.heap.size W)
    (fun i W => TkAt b (g + 1 + 1) (g + 1) s k (i + 1) W ∧ KO w b W ∧ Bx g (.slice (some ⟨G, 0, none⟩) i k) W ∧ OwnB G (s.data.toList.take i) k w.heap.size W)
    (fun i W W' row h hg hr => ⟨h.1.grown hg (fun r e => (hr r e).2), h.2.1.grown (by omega) hg hr, h.2.2.1.grown hg (fun r e => (hr r e).2), h.2.2.2.grow hg (fun e => by have := (hr _ e).1; omega)⟩)
    (fun i W W' row h hg hr => ⟨h.1.grown hg (fun r e => (hr r e).2), h.2.1.grown (by omega) hg hr, h.2.2.1.grown hg (fun r e => (hr r e).2), h.2.2.2.grow hg (fun e => by have := (hr _ e).1; omega)⟩)
    ⟨hT2, hK2, hX2, hO2⟩
    (fun i => { tmps := #[.pointer (some ⟨b, 0, none⟩), .int .i64 (k : Int), undef, undef, .string ⟨#[]⟩, .pointer (some ⟨g, 0, none⟩), .int .u8 (((byteAt s i).toNat : Nat) : Int), .pointer (some ⟨b, 0, none⟩), .int .i64 (k : Int), .int .i64 (k : Int), .bool true, .bool true, .bool false, .int .i64 (k : Int), .slice (some ⟨G, 0, none⟩) 0 k, .pointer (some ⟨b, 0, none⟩), .int .i64 (k : Int), .func (.func 150) #[] #[.pointer (some ⟨g + 1 + 1, 0, none⟩), .pointer (some ⟨g + 1, 0, none⟩)], .int .u8 (((byteAt s i).toNat : Nat) : Int), undef, undef, undef, undef, undef, undef], defers := [] })
    ?assign ?body ?iter ?done
  case assign =>
    intro l i W K hK
    gi_wp2
    exact hK
  case body =>
    rintro l i W hik ⟨hT, hK, hX, hO⟩
    have hxc := hX.c
    have hli := hlen i (by omega)
    have hOr : W.ownsRow w.heap.size 5 1 (.slice (some ⟨G, 0, none⟩) i k) i ((s.data.toList.take i).map byteVal) := by have := hO; unfold OwnB at this; rwa [hli] at this
    have hWl := hK.size
    gi_wp2_with (gi_at_builtin; refine wpListIn_append_fits _ rfl _ _ 113 rfl w.heap.size 5 i0 1 Tryz.underlying113 hi hz1 G i k ((s.data.toList.take i).map byteVal) rfl (hOr.alloc _) ⟨W.heap.size, 0, none⟩ 1 1 [.int .u8 (((byteAt s i).toNat : Nat) : Int)] rfl rfl (fun j u hj => by
      match j, hj with
      | 0, hj => simp at hj; subst hj; rw [addr_at, World.cell?_alloc_mark]; simp) (fun u hu => by simp at hu; subst hu; rfl) (by omega) ?_; intro w3 hown3 hg3; have hX3 := (hX.alloc (.cells #[.int .u8 (((byteAt s i).toNat : Nat) : Int)] 5)).grow hg3 (by simp; omega); have hc3 := hX3.c; have hf3 := hX3.f)
    have hT3 := (hT.alloc (.cells #[.int .u8 (((byteAt s i).toNat : Nat) : Int)] 5)).grow hg3 (by simp; omega) (by simp; omega) (by simp; omega)
    have hK3 := (hK.alloc (.cells #[.int .u8 (((byteAt s i).toNat : Nat) : Int)] 5)).grow hg3 (fun r e => by cases e; omega)
    have hO3 : OwnB G (s.data.toList.take (i + 1)) k w.heap.size w3 := by
      unfold OwnB
      rw [hlen (i + 1) (by omega), byte_take s i (by omega), List.map_append]
      exact hown3
    exact ⟨((KeepsOthers.alloc W _).from _).trans ((KeepsFrom.of_grownBy hg3 (fun j e => by cases e; omega)).trans ((KeepsOthers.setCell _ _ _).from _)), hT3.setNew (by omega) (by omega) (by omega) _, hK3.setNew (by omega) _, hX3.set, hO3.setOther (by omega)⟩
  case iter =>
    intro l K W hKp hI0 hK hY
    exact (take_it (6 - 1) (by decide) l b (g + 1 + 1) (g + 1) s k hk hs (by omega) (by omega) K (fun i W => KO w b W ∧ Bx g (.slice (some ⟨G, 0, none⟩) i k) W ∧ OwnB G (s.data.toList.take i) k w.heap.size W)
      (fun i W hi hT hC hK => ⟨⟨(hC.1.set0 _).drew, (hC.2.1.other (by omega)).drew, (hC.2.2.setOther (by omega)).same rfl⟩, hKp _ _ (((KeepsOthers.setCell _ _ _).trans (KeepsOthers.drew _)).from _) hK⟩)
      (fun i W1 hi hT hC hK => YieldAt.mono (hY i W1 hi ⟨hT, hC.1, hC.2⟩ hK) (fun e W' h => ⟨h.1, h.2.1.1, ⟨h.2.1.2.1, h.2.1.2.2⟩, h.2.2⟩))
      W hI0.1 ⟨hI0.2.1, hI0.2.2⟩ hK).mono (fun e W' h => ⟨h.1, ⟨h.2.1, h.2.2.1.1, h.2.2.1.2⟩, h.2.2.2⟩)
  case done =>
    rintro D W hD ⟨hT, hK, hX, hO⟩ hd
    have hxc := hX.c
    have hst := hO.str
    rw [hlen k (Nat.le_refl _), ext_take] at hst
    have hr : ∀ r, some D = some r → w2.heap.size ≤ r ∧ ∃ o : Obj, W.heap[r]? = some o ∧ o.isCells = false := fun r e => by cases e; exact ⟨hD, _, hd, rfl⟩
    have hg := grownBy_putObj' W D (.deferred none)
    have hT' := hT.grown hg (fun r e => (hr r e).2)
    generalize s.extract 0 k = u at *
    gi_wp2
    refine ⟨by simp, .inl ⟨_, _, rfl, run_takeDeferred hd, ?_⟩⟩
    exact ⟨_, results_tmp rfl _ _ _, rfl, (hK.grown (by omega) hg hr).to hT'.c hT'.f⟩
theorem rdtext_any (b : Nat) (s : ByteArray) (bad : Bool) (n : Int) (w : World) (h : RdAt w b s bad) (hs : s.size ≤ 140737488355328) :
    Calls Tryz.prog 127 #[.pointer (some ⟨b, 0, none⟩), .int .i64 n] w (Takes w b (.string (txtS s bad n)) (txtR s bad n) (!okT s bad n)) := by
  cases hok : okT s bad n with
  | true =>
    have h' := hok
    unfold okT at h'
    rw [Bool.and_eq_true, decide_eq_true_eq] at h'
    obtain ⟨hb, h0, h1⟩ := h'
    have hbad : bad = false := by cases bad <;> simp at hb ⊢
    subst hbad
    obtain ⟨k, rfl⟩ := Int.eq_ofNat_of_zero_le h0
    rw [txtS, txtR, hok, if_pos rfl, if_pos rfl, Int.toNat_natCast]
    exact rdtext_right b s k w h (by omega) hs
  | false =>
    have hrd := ready_any b s bad n (decide (0 ≤ n)) w h
    have hz : rdy s bad n (decide (0 ≤ n)) = false := by rw [← hok, okT, rdy, Bool.decide_and]
    rw [hz] at hrd
    have hO := Lib.hid hok
    clear hok hz
    obtain ⟨c, hc⟩ : ∃ c, decide (0 ≤ n) = c := ⟨_, rfl⟩
    rw [hc] at hrd
    go_enter Tryz.func127, Tryz.ntmps127
    go_wp2_with (fail)
    refine hrd.mono ?_
    rintro e w1 ⟨rfl, hw⟩
    have hR : RdTo w b s true w1 := by rw [hw]; exact h.set1 true
    clear hw
    go_wp2
    go_ret
    exact ⟨by rw [txtS, hO.out]; rfl, by rw [txtR, hO.out]; exact hR⟩
theorem rdnum_any (b : Nat) (s : ByteArray) (bad : Bool) (n : Int) (w : World) (h : RdAt w b s bad) (hs : s.size ≤ 140737488355328) :
    Calls Tryz.prog 128 #[.pointer (some ⟨b, 0, none⟩), .int .i64 n] w (Takes w b (.int .i64 ((numV s bad n : Nat) : Int)) (numR s bad n) (!okN s bad n)) := by
  cases hok : okN s bad n with
  | true =>
    have h' := hok
    unfold okN at h'
    rw [Bool.and_eq_true, decide_eq_true_eq] at h'
    obtain ⟨hb, h0, h1, h2⟩ := h'
    have hbad : bad = false := by cases bad <;> simp at hb ⊢
    subst hbad
    obtain ⟨k, rfl⟩ := Int.eq_ofNat_of_zero_le (show 0 ≤ n by omega)
    rw [numV, numR, hok, if_pos rfl, if_pos rfl, Int.toNat_natCast, ← ext_take, list_lineOf]
    exact rdnum_right b s k w h (by omega) (by omega) (by omega) hs
  | false =>
    by_cases h1 : 1 ≤ n
    · have t1 : decide (1 ≤ n) = true := by rw [decide_eq_true_eq]; exact h1
      have hrd := ready_any b s bad n (decide (n ≤ 7)) w h
      have hz : rdy s bad n (decide (n ≤ 7)) = false := by rw [← hok, okN, rdy, Bool.decide_and, Bool.decide_and, t1, Bool.true_and]
      rw [hz] at hrd
      have hO := Lib.hid hok
      clear hok hz h1
      obtain ⟨c, hc⟩ : ∃ c, decide (n ≤ 7) = c := ⟨_, rfl⟩
      rw [hc] at hrd
      go_enter Tryz.func128, Tryz.ntmps128
      go_wp2_with (fail)
      refine hrd.mono ?_
      rintro e w1 ⟨rfl, hw⟩
      have hR : RdTo w b s true w1 := by rw [hw]; exact h.set1 true
      clear hw
      go_wp2
      go_ret
      exact ⟨by rw [numV, hO.out]; rfl, by rw [numR, hO.out]; exact hR⟩
    · have t1 : decide (1 ≤ n) = false := by rw [decide_eq_false_iff_not]; exact h1
      have hrd := ready_any b s bad n false w h
      have hz : rdy s bad n false = false := by simp [rdy]
      rw [hz] at hrd
      have hO := Lib.hid hok
      clear hok hz h1
      go_enter Tryz.func128, Tryz.ntmps128
      go_wp2_with (fail)
      refine hrd.mono ?_
      rintro e w1 ⟨rfl, hw⟩
      have hR : RdTo w b s true w1 := by rw [hw]; exact h.set1 true
      clear hw
      go_wp2
      go_ret
      exact ⟨by rw [numV, hO.out]; rfl, by rw [numR, hO.out]; exact hR⟩
end Go.Proofs.YtfadglcpapiklaaGreatDoor
end
section
namespace Go.Proofs.YtfadglcpapiklaaGreatDoor
open Go.RowKit
set_option linter.unusedVariables false
set_option linter.unusedSimpArgs false
namespace Rm
theorem size_list (s : ByteArray) : s.size = s.data.toList.length := by simp
theorem ext_list (s : ByteArray) (a b : Nat) : (s.extract a b).data.toList = (s.data.toList.take b).drop a := by
  rw [ByteArray.data_extract, Array.toList_extract]; simp [List.extract_eq_take_drop, List.drop_take]
theorem app_list (s t : ByteArray) : (s ++ t).data.toList = s.data.toList ++ t.data.toList := by simp [ByteArray.data_append]
theorem app_nil (s : ByteArray) : s ++ (⟨#[]⟩ : ByteArray) = s := Go.WideShapes.bytes_inj (by rw [app_list]; simp)
theorem nil_app (s : ByteArray) : (⟨#[]⟩ : ByteArray) ++ s = s := Go.WideShapes.bytes_inj (by rw [app_list]; simp)
theorem app_assoc (s t u : ByteArray) : s ++ t ++ u = s ++ (t ++ u) := Go.WideShapes.bytes_inj (by simp only [app_list, List.append_assoc])
theorem split (s : ByteArray) (k : Nat) : s = s.extract 0 k ++ s.extract k s.size := Go.WideShapes.bytes_inj (by
  rw [app_list, ext_list, ext_list, List.drop_zero, List.take_of_length_le (Nat.le_of_eq (size_list s).symm) (l := s.data.toList) (i := s.size), List.take_append_drop])
theorem ext_left (s q : ByteArray) : (s ++ q).extract 0 s.size = s := Go.WideShapes.bytes_inj (by
  rw [ext_list, app_list, List.drop_zero, List.take_left' (size_list s).symm])
theorem ext_right (s q : ByteArray) : (s ++ q).extract s.size (s ++ q).size = q := Go.WideShapes.bytes_inj (by
  rw [ext_list, List.take_of_length_le (Nat.le_of_eq (size_list _).symm), app_list, List.drop_left' (size_list s).symm])
theorem be_size (W n : Nat) : (lineOf (Pk.be W n)).size = W := by rw [lineOf_size, Pk.be_length]
theorem numL_nat (n W : Nat) (h1 : 1 ≤ W) (h2 : W ≤ 7) (h : n < 256 ^ W) : numL (n : Int) (W : Int) = lineOf (Pk.be W n) := by
  have hb : numB (n : Int) (W : Int) = true := by unfold numB; rw [decide_eq_true_eq]; exact ⟨by omega, by omega, by omega, by simpa using h⟩
  rw [numL, if_pos hb, show ((W : Int)).toNat = W by omega, show ((n : Int)).toNat = n by omega]
theorem num_laid (n W : Nat) (q : ByteArray) (h1 : 1 ≤ W) (h7 : W ≤ 7) (h : n < 256 ^ W) :
    okN (lineOf (Pk.be W n) ++ q) false (W : Int) = true ∧ numV (lineOf (Pk.be W n) ++ q) false (W : Int) = n ∧ numR (lineOf (Pk.be W n) ++ q) false (W : Int) = q := by
  have hz := be_size W n
  have hs : (lineOf (Pk.be W n) ++ q).size = W + q.size := by rw [ByteArray.size_append, hz]
  have hb : okN (lineOf (Pk.be W n) ++ q) false (W : Int) = true := by unfold okN; rw [decide_eq_true (by omega)]; rfl
  have e1 := ext_left (lineOf (Pk.be W n)) q
  have e2 := ext_right (lineOf (Pk.be W n)) q
  rw [hz] at e1 e2
  refine ⟨hb, ?_, ?_⟩
  · rw [numV, if_pos hb, Int.toNat_natCast, e1, list_lineOf, Pk.val_be_lt h]
  · rw [numR, if_pos hb, Int.toNat_natCast, e2]
theorem txt_laid (t q : ByteArray) : okT (t ++ q) false (t.size : Int) = true ∧ txtS (t ++ q) false (t.size : Int) = t ∧ txtR (t ++ q) false (t.size : Int) = q := by
  have hs : (t ++ q).size = t.size + q.size := ByteArray.size_append ..
  have hb : okT (t ++ q) false (t.size : Int) = true := by unfold okT; rw [decide_eq_true (by omega)]; rfl
  exact ⟨hb, by rw [txtS, if_pos hb, Int.toNat_natCast, ext_left], by rw [txtR, if_pos hb, Int.toNat_natCast, ext_right]⟩
theorem num_read (s : ByteArray) (bad : Bool) (W : Nat) (h : okN s bad (W : Int) = true) :
    bad = false ∧ 1 ≤ W ∧ W ≤ 7 ∧ numV s bad (W : Int) < 256 ^ W ∧ s = lineOf (Pk.be W (numV s bad (W : Int))) ++ numR s bad (W : Int) := by
  have h' := h
  unfold okN at h'
  rw [Bool.and_eq_true, decide_eq_true_eq] at h'
  obtain ⟨h1, h2, h3, h4⟩ := h'
  have hl : (s.extract 0 W).data.toList.length = W := by rw [← size_list, ByteArray.size_extract]; omega
  have hv : numV s bad (W : Int) = Pk.val (s.extract 0 W).data.toList := by rw [numV, if_pos h, Int.toNat_natCast]
  have hr : numR s bad (W : Int) = s.extract W s.size := by rw [numR, if_pos h, Int.toNat_natCast]
  refine ⟨by cases bad <;> simp at h1 ⊢, by omega, by omega, ?_, ?_⟩
  · have := Pk.val_lt (s.extract 0 W).data.toList
    rw [hl] at this; rw [hv]; exact this
  · have hb := Pk.be_val (s.extract 0 W).data.toList
    rw [hl, ← hv] at hb
    rw [hb, hr, show lineOf (s.extract 0 W).data.toList = s.extract 0 W from rfl]
    exact split s W
theorem num_bad (s : ByteArray) (n : Int) : okN s true n = false := rfl
theorem numR_size (s : ByteArray) (bad : Bool) (n : Int) : (numR s bad n).size ≤ s.size := by
  rw [numR]; split
  · rw [ByteArray.size_extract]; omega
  · exact Nat.le_refl _
theorem txtR_size (s : ByteArray) (bad : Bool) (n : Int) : (txtR s bad n).size ≤ s.size := by
  rw [txtR]; split
  · rw [ByteArray.size_extract]; omega
  · exact Nat.le_refl _
theorem numV_lt (s : ByteArray) (bad : Bool) (W : Nat) : numV s bad (W : Int) < 256 ^ W := by
  cases h : okN s bad (W : Int) with
  | true => exact (num_read s bad W h).2.2.2.1
  | false => rw [numV, if_neg (by rw [h]; decide)]; exact Nat.pow_pos (by decide)
end Rm
end Go.Proofs.YtfadglcpapiklaaGreatDoor
end
section
namespace Go.Proofs.YtfadglcpapiklaaGreatDoor
open Go.RowKit
set_option linter.unusedVariables false
set_option linter.unusedSimpArgs false

/-- What is left of a text that is read, and whether the reader is bad. -/
structure RS11 where
  s : ByteArray
  b : Bool
def rNum (p : RS11) (W : Int) : Nat := numV p.s p.b W
def rNumR (p : RS11) (W : Int) : RS11 := ⟨numR p.s p.b W, !okN p.s p.b W⟩
def rTxt (p : RS11) (n : Int) : ByteArray := txtS p.s p.b n
def rTxtR (p : RS11) (n : Int) : RS11 := ⟨txtR p.s p.b n, !okT p.s p.b n⟩
theorem rNumR_size (p : RS11) (W : Int) : (rNumR p W).s.size ≤ p.s.size := Rm.numR_size _ _ _
theorem rTxtR_size (p : RS11) (n : Int) : (rTxtR p n).s.size ≤ p.s.size := Rm.txtR_size _ _ _
theorem rNum_lt (p : RS11) (W : Nat) : rNum p (W : Int) < 256 ^ W := Rm.numV_lt _ _ _
theorem num_l (n : Int) (W : Nat) (q : ByteArray) (h1 : 1 ≤ W) (h7 : W ≤ 7) (h0 : 0 ≤ n) (h : n < ((256 ^ W : Nat) : Int)) :
    ((rNum ⟨numL n (W : Int) ++ q, false⟩ (W : Int) : Nat) : Int) = n ∧ rNumR ⟨numL n (W : Int) ++ q, false⟩ (W : Int) = ⟨q, false⟩ := by
  obtain ⟨k, rfl⟩ := Int.eq_ofNat_of_zero_le h0
  have hk : k < 256 ^ W := by omega
  obtain ⟨f1, f2, f3⟩ := Rm.num_laid k W q h1 h7 hk
  rw [Rm.numL_nat k W h1 h7 hk]
  unfold rNum rNumR
  exact ⟨by rw [f2], by rw [f3, f1]; rfl⟩
theorem txt_l (t q : ByteArray) (n : Int) (hn : n = (t.size : Int)) : rTxt ⟨t ++ q, false⟩ n = t ∧ rTxtR ⟨t ++ q, false⟩ n = ⟨q, false⟩ := by
  subst hn
  obtain ⟨f1, f2, f3⟩ := Rm.txt_laid t q
  unfold rTxt rTxtR
  exact ⟨f2, by rw [f3, f1]; rfl⟩
def TakesR (w : World) (b : Nat) (v : Value) (q : RS11) (e : Ending) (w' : World) : Prop := e = .returned v ∧ RdTo w b q.s q.b w'
theorem rdnum_q (b : Nat) (q : RS11) (n : Int) (w : World) (h : RdAt w b q.s q.b) (hs : q.s.size ≤ 140737488355328) : Calls Tryz.prog 128 #[.pointer (some ⟨b, 0, none⟩), .int .i64 n] w (TakesR w b (.int .i64 ((rNum q n : Nat) : Int)) (rNumR q n)) := rdnum_any b q.s q.b n w h hs
theorem rdtxt_q (b : Nat) (q : RS11) (n : Int) (w : World) (h : RdAt w b q.s q.b) (hs : q.s.size ≤ 140737488355328) : Calls Tryz.prog 127 #[.pointer (some ⟨b, 0, none⟩), .int .i64 n] w (TakesR w b (.string (rTxt q n)) (rTxtR q n)) := rdtext_any b q.s q.b n w h hs
end Go.Proofs.YtfadglcpapiklaaGreatDoor
end
section
namespace Go.Proofs.YtfadglcpapiklaaGreatDoor
open Go.RowKit
set_option linter.unusedVariables false
set_option linter.unusedSimpArgs false

def Tells (w : World) (v : Value) (e : Ending) (w' : World) : Prop := e = .returned v ∧ Below w.heap.size w w'
/-- A value of one cell, else nil. -/
def cell1 (v : Value) : Value := if v.oneCell' = true then v else .slice none 0 0
theorem cell1_one (v : Value) : (cell1 v).oneCell' = true := by
  unfold cell1; split
  · assumption
  · rfl
theorem cell1_slice (a : Option Addr) (n c : Nat) : cell1 (.slice a n c) = .slice a n c := if_pos (show (Value.slice a n c).oneCell' = true from rfl)
theorem Reads.isSlice {w : World} {v : Value} {xs : List Value} (h : Reads w v xs) : ∃ a c, v = .slice a xs.length c := by
  rcases h with ⟨⟨a, c, h1⟩, h2⟩ | ⟨b, off, cap, h1, _⟩
  · exact ⟨a, c, by rw [h1, h2]; rfl⟩
  · exact ⟨_, _, h1⟩
theorem Own.isSlice {w : World} {B : Nat} {E : TypeId} {v : Value} {xs : List Value} (h : Own w B E v xs) : ∃ a c, v = .slice a xs.length c := h.reads.isSlice
theorem cell1_of {w : World} {v : Value} {xs : List Value} (h : Reads w v xs) : cell1 v = v := by
  obtain ⟨a, c, rfl⟩ := h.isSlice
  exact cell1_slice _ _ _
/-- A stripe: its number, its data, and where they lie. -/
structure St where
  n : Int
  d : List ByteArray
  v : Value
instance : Inhabited St := ⟨⟨0, [], .nilFunc⟩⟩
def stE : Enc St where
  k := 2
  f := fun s => [.int .i64 s.n, cell1 s.v]
  pos := by decide
  len := fun _ => rfl
  one := fun a u hu => by
    simp only [List.mem_cons, List.not_mem_nil, or_false] at hu
    rcases hu with rfl | rfl
    · rfl
    · exact cell1_one _
/-- Its data lie so. -/
structure SOk (w : World) (s : St) : Prop where
  r : Reads w s.v (s.d.map .string)
  n : s.d.length ≤ 140737488355328
  z : ∀ t ∈ s.d, t.size ≤ 140737488355328
structure SAt (w : World) (b o : Nat) (s : St) : Prop where
  c0 : w.cell? ⟨b, o, none⟩ = some (.int .i64 s.n)
  c1 : w.cell? ⟨b, o + 1, none⟩ = some s.v
  lt : b < w.heap.size
theorem SOk.below {w w' : World} {s : St} (h : SOk w s) (hb : Below w.heap.size w w') : SOk w' s := ⟨h.r.below hb, h.n, h.z⟩
theorem SAt.below {w w' : World} {B b o : Nat} {s : St} (h : SAt w b o s) (hb : Below B w w') (hB : b < B) : SAt w' b o s :=
  ⟨(hb.cell (p := ⟨b, o, none⟩) hB).trans h.c0, (hb.cell (p := ⟨b, o + 1, none⟩) hB).trans h.c1, Nat.lt_of_lt_of_le h.lt hb.size⟩
/-- A list of stripes, as it lies. -/
def SReads (w : World) (v : Value) (l : List St) : Prop :=
  ∃ a cap, v = .slice a l.length cap ∧ ∀ i (hi : i < l.length), ∃ b o, a = some ⟨b, o, none⟩ ∧ SAt w b (o + i * 2) l[i] ∧ SOk w l[i]
theorem SReads.below {w w' : World} {v : Value} {l : List St} (h : SReads w v l) (hb : Below w.heap.size w w') : SReads w' v l := by
  obtain ⟨a, cap, e, g⟩ := h
  exact ⟨a, cap, e, fun i hi => by obtain ⟨b, o, e1, e2, e3⟩ := g i hi; exact ⟨b, o, e1, e2.below hb e2.lt, e3.below hb⟩⟩
theorem SReads.of {w : World} {v : Value} {l : List St} (h : ReadsE stE w v l) (hL : ∀ s ∈ l, SOk w s) : SReads w v l := by
  obtain ⟨a, cap, e, g⟩ := h.items
  refine ⟨a, cap, e, fun i hi => ?_⟩
  obtain ⟨b, o, e1, lt, c⟩ := g i hi
  have hl := hL l[i] (List.getElem_mem hi)
  refine ⟨b, o, e1, ?_, hl⟩
  have q : ∀ j, j < 2 → w.cell? ⟨b, o + i * 2 + j, none⟩ = (stE.f l[i])[j]? := fun j hj => by
    have := c j hj
    rw [← Nat.add_assoc] at this
    exact this
  exact ⟨q 0 (by decide), by rw [q 1 (by decide)]; exact congrArg some (cell1_of hl.r), lt⟩
namespace Rc
/-- The numbers rise, from behind last on, below top. -/
def incB (top : Int) : Int → List St → Bool
  | _, [] => true
  | last, s :: r => !(decide (s.n ≤ last)) && (!(decide (s.n ≥ top)) && incB top s.n r)
def txtB (d : List ByteArray) : Bool := d.all fun t => (t.size : Int) == 120
def stB (k : Int) (s : St) : Bool := ((s.d.length : Int) == k) && txtB s.d
/-- J1: what the head says. -/
def ordB (k m b q : Int) (l : List St) : Bool := gR k m b && (decide (1 ≤ q ∧ q ≤ 1099511627776) && (decide (1 ≤ l.length ∧ l.length ≤ 16) && incB (gStripes k m b) (-1) l))
/-- J1. -/
def rightB (k m b q : Int) (l : List St) : Bool := ordB k m b q l && l.all (stB k)
/-- What two records have to be the same. -/
def sameB (q : Int) (l : List St) (p : Int) (m : List St) : Bool := (q == p) && decide (l.map (fun s => (s.n, s.d)) = m.map (fun s => (s.n, s.d)))
end Rc
end Go.Proofs.YtfadglcpapiklaaGreatDoor
end
section
namespace Go.Proofs.YtfadglcpapiklaaGreatDoor
section
open Go.RowKit
set_option linter.unusedVariables false
set_option linter.unusedSimpArgs false

open Rc
theorem ne_toList {a b : ByteArray} (h : ¬ a = b) : (!a.toList == b.toList) = true := by
  rw [Bool.not_eq_true', beq_eq_false_iff_ne]
  intro e
  exact h (by rw [Lib.toList_data, Lib.toList_data] at e; exact Go.WideShapes.bytes_inj e)
theorem list_ext' {α : Type} {a b : List α} (h : a.length = b.length) (hj : ∀ j, j < a.length → a[j]? = b[j]?) : a = b := by
  refine List.ext_getElem? fun i => ?_
  rcases Nat.lt_or_ge i a.length with h1 | h1
  · exact hj i h1
  · rw [List.getElem?_eq_none h1, List.getElem?_eq_none (by omega)]
set_option maxRecDepth 100000 in
set_option maxHeartbeats 4000000 in
theorem rtexts_any (va vb : Value) (a b : List ByteArray) (w : World) (hA : Reads w va (a.map .string)) (hB : Reads w vb (b.map .string)) (hn : a.length ≤ 140737488355328) :
    Calls Tryz.prog 61 #[va, vb] w (Tells w (.bool (decide (a = b)))) := by
  obtain ⟨a0, ca, rfl, ga⟩ := hA.items
  obtain ⟨b0, cb, rfl, gb⟩ := hB.items
  clear hA hB
  by_cases h1 : a.length = b.length
  · have h1' := Lib.hid h1
    have t1 : (((a.length : Nat) : Int) != ((b.length : Nat) : Int)) = false := by rw [h1]; exact bne_self_eq_false _
    have t1' : (((a.length : Nat) : Int) == ((b.length : Nat) : Int)) = true := by rw [h1]; exact beq_self_eq_true _
    clear h1
    go_enter Tryz.func61, Tryz.ntmps61
    go_wp2_with (fail)
    clear t1 t1'
    go_loopw [5] (fun i wr => ∃ k : Nat, k ≤ a.length ∧ i = .int .i64 (k : Int) ∧ Below w.heap.size w wr ∧ Hid (∀ j, j < k → a[j]? = b[j]?)) (fun i _ => a.length - (RowKit.intOf i).toNat)
    case atStart => exact ⟨0, Nat.zero_le _, rfl, Below.refl _ _, Lib.hid fun j hj => absurd hj (Nat.not_lt_zero _)⟩
    case round =>
      obtain ⟨k, hk, rfl, hB, hj⟩ := hrel
      rename World => wr
      by_cases hlt : k < a.length
      · have hltb : k < b.length := by rw [← h1'.out]; exact hlt
        have y1 : (k : Int) < (a.length : Int) := by omega
        have y2 : (k : Int) < (b.length : Int) := by omega
        obtain ⟨p1, o1, rfl, l1, c1⟩ := ga k hlt
        obtain ⟨p2, o2, rfl, l2, c2⟩ := gb k hltb
        have d1 := (hB.cell (p := ⟨p1, o1 + k, none⟩) l1).trans c1
        have d2 := (hB.cell (p := ⟨p2, o2 + k, none⟩) l2).trans c2
        have e1 : a[k]? = some a[k] := List.getElem?_eq_getElem hlt
        have e2 : b[k]? = some b[k] := List.getElem?_eq_getElem hltb
        clear c1 c2
        by_cases he : a[k] = b[k]
        · have hj' : Hid (∀ j, j < k + 1 → a[j]? = b[j]?) := Lib.hid fun j hjk => by
            by_cases e : j = k
            · subst e; rw [e1, e2, he]
            · exact hj.out j (by omega)
          rw [← he] at d2
          generalize a[k] = rk at *
          clear he e1 e2 hj
          go_wp2_with (fail)
          go_quiet (fail)
          have hB3 := below_c hB (drew_below wr nq)
          go_wp2_with (fail)
          go_roundw
          case rel => exact ⟨k + 1, by omega, by go_num, hB3, hj'⟩
          case measure => simp [RowKit.intOf]; omega
        · have hz : Hid (decide (a = b) = false) := Lib.hid (by
            rw [decide_eq_false_iff_not]
            intro e; subst e; exact he rfl)
          generalize a[k] = rk at *
          generalize b[k] = qk at *
          have tq : (!rk.toList == qk.toList) = true := ne_toList he
          clear e1 e2 hj he
          go_wp2_with (fail)
          go_quiet (fail)
          have hB3 := below_c hB (drew_below wr nq)
          go_wp2_with (fail)
          go_ret
          exact ⟨by rw [hz.out]; rfl, hB3⟩
      · have hz : Hid (decide (a = b) = true) := Lib.hid (decide_eq_true (list_ext' h1'.out fun j hj' => hj.out j (by omega)))
        have y1 : ¬ ((k : Int) < (a.length : Int)) := by omega
        go_wp2_with (fail)
        go_ret
        exact ⟨by rw [hz.out]; rfl, hB⟩
  · have hz : Hid (decide (a = b) = false) := Lib.hid (by rw [decide_eq_false_iff_not]; intro e; exact h1 (by rw [e]))
    have t1 : (((a.length : Nat) : Int) == ((b.length : Nat) : Int)) = false := by rw [beq_eq_false_iff_ne]; omega
    go_enter Tryz.func61, Tryz.ntmps61
    go_wp2_with (fail)
    go_ret
    exact ⟨by rw [hz.out]; rfl, Below.refl _ _⟩
theorem two_boxes (w : World) (c d : Array Value) (S T : TypeId) : ∀ W, W = (w.alloc (.cells c S)).alloc (.cells d T) →
    (∀ j, W.cell? ⟨w.heap.size, j, none⟩ = c[j]?) ∧ (∀ j, W.cell? ⟨w.heap.size + 1, j, none⟩ = d[j]?) ∧ Below w.heap.size w W ∧ w.heap.size + 1 < W.heap.size := by
  rintro W rfl
  have e : (w.alloc (.cells c S)).heap.size = w.heap.size + 1 := by simp
  refine ⟨fun j => ?_, fun j => ?_, ((Below.refl _ _).alloc (Nat.le_refl _) _).alloc (by simp) _, by simp⟩
  · rw [World.cell?_alloc_old _ _ _ (by rw [e]; show w.heap.size ≠ _; omega), World.cell?_alloc_mark]
  · have := World.cell?_alloc_mark (w.alloc (.cells c S)) d T (0, 0) j
    rw [e] at this; exact this
set_option maxRecDepth 100000 in
set_option maxHeartbeats 4000000 in
theorem rsame11_any (q p : Int) (va vb : Value) (l m : List St) (w : World) (hl : SReads w va l) (hm : SReads w vb m) (hn : l.length ≤ 140737488355328) :
    Calls Tryz.prog 20 #[.agg #[.int .i64 q, va], .agg #[.int .i64 p, vb]] w (Tells w (.bool (sameB q l p m))) := by
  obtain ⟨ha, hb, hB0, hs⟩ := two_boxes w #[.int .i64 q, va] #[.int .i64 p, vb] 30 30 _ rfl
  have hl1 := hl.below hB0
  have hm1 := hm.below hB0
  obtain ⟨x, xc, rfl, gl⟩ := hl1
  obtain ⟨y, yc, rfl, gm⟩ := hm1
  have a0 := ha 0
  have a1 := ha 1
  have b0 := hb 0
  have b1 := hb 1
  clear hl hm ha hb
  simp only [List.getElem?_toArray, List.getElem?_cons_zero, List.getElem?_cons_succ] at a0 a1 b0 b1
  go_enter Tryz.func20, Tryz.ntmps20
  go_upto_region 1 with (fail)
  generalize (w.alloc (.cells #[.int .i64 q, .slice x l.length xc] 30)).alloc (.cells #[.int .i64 p, .slice y m.length yc] 30) = w0 at *
  obtain ⟨g, hg⟩ : ∃ g, w.heap.size = g := ⟨_, rfl⟩
  rw [hg] at a0 a1 b0 b1 hs ⊢
  replace hg := Lib.hid hg
  by_cases h1 : q = p
  · subst h1
    have t0 : (q != q) = false := bne_self_eq_false _
    have t0' : (q == q) = true := beq_self_eq_true _
    by_cases h2 : l.length = m.length
    · have t1 : (((l.length : Nat) : Int) == ((m.length : Nat) : Int)) = true := by rw [h2]; exact beq_self_eq_true _
      have h2' := Lib.hid h2
      clear h2
      go_wp2_with (fail)
      clear t0 t0' t1 a0 b0
      go_loopw [5] (fun i wr => ∃ k : Nat, k ≤ l.length ∧ i = .int .i64 (k : Int) ∧ Below w0.heap.size w0 wr ∧ Hid (∀ j, j < k → (l.map (fun s => (s.n, s.d)))[j]? = (m.map (fun s => (s.n, s.d)))[j]?)) (fun i _ => l.length - (RowKit.intOf i).toNat)
      case atStart => exact ⟨0, Nat.zero_le _, rfl, Below.refl _ _, Lib.hid fun j hj => absurd hj (Nat.not_lt_zero _)⟩
      case round =>
        obtain ⟨k, hk, rfl, hB, hj⟩ := hrel
        rename World => wr
        have c1 := (hB.cell (p := ⟨g, 1, none⟩) (by show g < w0.heap.size; omega)).trans a1
        have c2 := (hB.cell (p := ⟨g + 1, 1, none⟩) hs).trans b1
        by_cases hlt : k < l.length
        · have hltm : k < m.length := by rw [← h2'.out]; exact hlt
          have y1 : (k : Int) < (l.length : Int) := by omega
          have y2 : (k : Int) < (m.length : Int) := by omega
          obtain ⟨p1, o1, rfl, A1, K1⟩ := gl k hlt
          obtain ⟨p2, o2, rfl, A2, K2⟩ := gm k hltm
          have L1 := A1.below hB A1.lt
          have L2 := A2.below hB A2.lt
          have e1 : (l.map (fun s => (s.n, s.d)))[k]? = some (l[k].n, l[k].d) := by simp [hlt]
          have e2 : (m.map (fun s => (s.n, s.d)))[k]? = some (m[k].n, m[k].d) := by simp [hltm]
          replace K1 := K1.below hB
          replace K2 := K2.below hB
          clear A1 A2
          generalize l[k] = s1 at *
          generalize m[k] = s2 at *
          obtain ⟨n1, d1, v1⟩ := s1
          obtain ⟨n2, d2, v2⟩ := s2
          have ⟨f0, f1, fl⟩ := L1
          have ⟨g0, g1, gl'⟩ := L2
          simp only at f0 f1 g0 g1 e1 e2
          have cT := fun W h1 h2 => rtexts_any v1 v2 d1 d2 W h1 h2 K1.n
          obtain ⟨bd, hbd⟩ : ∃ b, decide (d1 = d2) = b := ⟨_, rfl⟩
          rw [hbd] at cT
          go_wp2_with (fail)
          have hc1 : g < wr.heap.size := by have := hB.size; omega
          have hc2 : g + 1 < wr.heap.size := by have := hB.size; omega
          refine wp_region_cls (Below wr.heap.size wr) (by kernel_rfl) (by kernel_rfl) (Below.refl _ _).drew ?_
          intro Z f hne hD hE
          have r0 : ∀ zz, (f zz).cell? ⟨g, 1, none⟩ = some (.slice (some ⟨p1, o1, none⟩) l.length xc) := fun zz => (clsCell hD zz _ _ hc1).trans c1
          have r1 : ∀ zz, (f zz).cell? ⟨g + 1, 1, none⟩ = some (.slice (some ⟨p2, o2, none⟩) m.length yc) := fun zz => (clsCell hD zz _ _ hc2).trans c2
          have r2 : ∀ zz, (f zz).cell? ⟨p1, o1 + k * 2 + 1, none⟩ = some v1 := fun zz => (clsCell hD zz _ _ fl).trans f1
          have r3 : ∀ zz, (f zz).cell? ⟨p2, o2 + k * 2 + 1, none⟩ = some v2 := fun zz => (clsCell hD zz _ _ gl').trans g1
          repeat (go_big_quiet_step (first | (go_at_call 61; with_reducible exact toQB hD hE _ (cT _ (K1.r.below (hD _)) (K2.r.below (hD _))))))
          refine wpQuiet_nil ?_
          intro _ hw'
          obtain ⟨zq, hw''⟩ := hw'
          subst hw''
          have B2 := below_c hB (hD zq)
          have c1' := r0 zq
          have c2' := r1 zq
          have f0' := (clsCell hD zq _ _ fl).trans f0
          have g0' := (clsCell hD zq _ _ gl').trans g0
          have fl' := Nat.lt_of_lt_of_le fl (hD zq).size
          have gl2 := Nat.lt_of_lt_of_le gl' (hD zq).size
          clear hE r0 r1 r2 r3 cT K1 K2 L1 L2 f0 f1 g0 g1 c1 c2 fl gl' hD a1 b1
          generalize f zq = w7 at *
          cases bd with
          | false =>
            have hz : Hid (sameB q l q m = false) := Lib.hid (by
              unfold sameB
              rw [Bool.and_eq_false_iff]; right
              rw [decide_eq_false_iff_not]; intro e
              rw [e, e2] at e1
              simp only [Option.some.injEq, Prod.mk.injEq] at e1
              exact of_decide_eq_false hbd e1.2.symm)
            go_wp2_with (fail)
            go_quiet (fail)
            have hB3 := below_c B2 (drew_below w7 nq)
            go_wp2_with (fail)
            go_ret
            exact ⟨by rw [hz.out]; rfl, below_c hB0 hB3⟩
          | true =>
            by_cases hnn : n1 = n2
            · have hj' : Hid (∀ j, j < k + 1 → (l.map (fun s => (s.n, s.d)))[j]? = (m.map (fun s => (s.n, s.d)))[j]?) := Lib.hid fun j hjk => by
                by_cases e : j = k
                · subst e; rw [e1, e2, hnn, of_decide_eq_true hbd]
                · exact hj.out j (by omega)
              subst hnn
              have tn : (n1 != n1) = false := bne_self_eq_false _
              have tn' : (n1 == n1) = true := beq_self_eq_true _
              clear hj e1 e2 hbd
              go_wp2_with (fail)
              go_quiet (fail)
              have hB3 := below_c B2 (drew_below w7 nq)
              go_wp2_with (fail)
              go_roundw
              case rel => exact ⟨k + 1, by omega, by go_num, hB3, hj'⟩
              case measure => simp [RowKit.intOf]; omega
            · have tn : (n1 == n2) = false := beq_eq_false_iff_ne.2 hnn
              have hz : Hid (sameB q l q m = false) := Lib.hid (by
                unfold sameB
                rw [Bool.and_eq_false_iff]; right
                rw [decide_eq_false_iff_not]; intro e
                rw [e, e2] at e1
                simp only [Option.some.injEq, Prod.mk.injEq] at e1
                exact hnn e1.1.symm)
              clear hj e1 e2 hbd
              go_wp2_with (fail)
              go_quiet (fail)
              have hB3 := below_c B2 (drew_below w7 nq)
              go_wp2_with (fail)
              go_ret
              exact ⟨by rw [hz.out]; rfl, below_c hB0 hB3⟩
        · have hz : Hid (sameB q l q m = true) := Lib.hid (by
            unfold sameB
            rw [Bool.and_eq_true]
            exact ⟨beq_self_eq_true _, decide_eq_true (list_ext' (by simpa using h2'.out) fun j hj' => hj.out j (by simp at hj'; omega))⟩)
          have y1 : ¬ ((k : Int) < (l.length : Int)) := by omega
          go_wp2_with (fail)
          go_ret
          exact ⟨by rw [hz.out]; rfl, below_c hB0 hB⟩
    · have t1 : (((l.length : Nat) : Int) == ((m.length : Nat) : Int)) = false := by rw [beq_eq_false_iff_ne]; omega
      have hz : Hid (sameB q l q m = false) := Lib.hid (by
        unfold sameB
        rw [Bool.and_eq_false_iff]; right
        rw [decide_eq_false_iff_not]; intro e
        have := congrArg List.length e
        simp at this; exact h2 this)
      go_wp2_with (fail)
      go_ret
      exact ⟨by rw [hz.out]; rfl, hB0⟩
  · have t0 : (q == p) = false := beq_eq_false_iff_ne.2 h1
    have hz : Hid (sameB q l p m = false) := Lib.hid (by unfold sameB; rw [t0]; rfl)
    go_wp2_with (fail)
    go_ret
    exact ⟨by rw [hz.out]; rfl, hB0⟩
end
section
open Go.RowKit
set_option linter.unusedVariables false
set_option linter.unusedSimpArgs false

open Rc
theorem incB_cons (top last : Int) (s : St) (r : List St) : incB top last (s :: r) = (!(decide (s.n ≤ last)) && (!(decide (s.n ≥ top)) && incB top s.n r)) := rfl
/-- What is left to be shown when i stripes are over. -/
def restB (top k last : Int) (l : List St) : Bool := incB top last l && l.all (stB k)
theorem restB_nil (top k last : Int) : restB top k last [] = true := rfl
theorem restB_le {top k last : Int} {s : St} {r : List St} (h : s.n ≤ last) : restB top k last (s :: r) = false := by
  simp [restB, incB_cons, h]
theorem restB_ge {top k last : Int} {s : St} {r : List St} (h : s.n ≥ top) : restB top k last (s :: r) = false := by
  simp [restB, incB_cons, h]
theorem restB_st {top k last : Int} {s : St} {r : List St} (h : stB k s = false) : restB top k last (s :: r) = false := by
  simp [restB, h]
theorem restB_ok {top k last : Int} {s : St} {r : List St} (h1 : ¬ s.n ≤ last) (h2 : ¬ s.n ≥ top) (h : stB k s = true) : restB top k last (s :: r) = restB top k s.n r := by
  simp only [restB, incB_cons, decide_eq_false h1, decide_eq_false h2, Bool.not_false, Bool.true_and, List.all_cons, h]
theorem stB_txt {k : Int} {s : St} (h : txtB s.d = false) : stB k s = false := by simp [stB, h]
theorem stB_len {k : Int} {s : St} (h : ((s.d.length : Int) == k) = false) : stB k s = false := by simp [stB, h]
theorem txtB_no {d : List ByteArray} {i : Nat} (hi : i < d.length) (h : ¬ (d[i].size : Int) = 120) : txtB d = false := by
  unfold txtB
  rw [List.all_eq_false]
  exact ⟨d[i], List.getElem_mem hi, by rw [beq_iff_eq]; exact h⟩
theorem txtB_yes {d : List ByteArray} (h : ∀ i (hi : i < d.length), (d[i].size : Int) = 120) : txtB d = true := by
  unfold txtB
  rw [List.all_eq_true]
  intro t ht
  obtain ⟨i, hi, rfl⟩ := List.getElem_of_mem ht
  rw [beq_iff_eq]; exact h i hi
set_option maxRecDepth 100000 in
set_option maxHeartbeats 4000000 in
theorem rright11_any (K M B q : Int) (v : Value) (l : List St) (w : World) (hl : SReads w v l) (hn : l.length ≤ 140737488355328) :
    Calls Tryz.prog 64 #[.agg #[.int .i64 K, .int .i64 M, .int .i64 B], .agg #[.int .i64 q, v]] w (Tells w (.bool (rightB K M B q l))) := by
  obtain ⟨ha, hb, hB0, hs⟩ := two_boxes w #[.int .i64 K, .int .i64 M, .int .i64 B] #[.int .i64 q, v] 23 30 _ rfl
  have hl1 := hl.below hB0
  obtain ⟨x, xc, rfl, gl⟩ := hl1
  have a0 := ha 0
  have a1 := ha 1
  have a2 := ha 2
  have b0 := hb 0
  have b1 := hb 1
  clear hl ha hb
  simp only [List.getElem?_toArray, List.getElem?_cons_zero, List.getElem?_cons_succ] at a0 a1 a2 b0 b1
  go_enter Tryz.func64, Tryz.ntmps64
  go_upto_region 1 with (fail)
  generalize (w.alloc (.cells #[.int .i64 K, .int .i64 M, .int .i64 B] 23)).alloc (.cells #[.int .i64 q, .slice x l.length xc] 30) = w0 at *
  obtain ⟨g, hg⟩ : ∃ g, w.heap.size = g := ⟨_, rfl⟩
  rw [hg] at a0 a1 a2 b0 b1 hs ⊢
  replace hg := Lib.hid hg
  go_wp2_with (fail)
  refine (rright_any K M B w0).mono ?_
  rintro e w1 ⟨rfl, bw⟩
  have hB1 := below_c hB0 bw
  replace a0 := (bw.cell (p := ⟨g, 0, none⟩) (by show g < w0.heap.size; omega)).trans a0
  replace a1 := (bw.cell (p := ⟨g, 1, none⟩) (by show g < w0.heap.size; omega)).trans a1
  replace a2 := (bw.cell (p := ⟨g, 2, none⟩) (by show g < w0.heap.size; omega)).trans a2
  replace b0 := (bw.cell (p := ⟨g + 1, 0, none⟩) hs).trans b0
  replace b1 := (bw.cell (p := ⟨g + 1, 1, none⟩) hs).trans b1
  replace hs := Nat.lt_of_lt_of_le hs bw.size
  replace gl : ∀ i (hi : i < l.length), ∃ b o, x = some ⟨b, o, none⟩ ∧ SAt w1 b (o + i * 2) l[i] ∧ SOk w1 l[i] := fun i hi => by
    obtain ⟨b, o, e1, e2, e3⟩ := gl i hi
    exact ⟨b, o, e1, e2.below bw e2.lt, e3.below bw⟩
  clear bw hB0 w0
  cases hR : gR K M B with
  | false =>
    have hz : Hid (rightB K M B q l = false) := Lib.hid (by simp [rightB, ordB, hR])
    go_wp2_with (fail)
    go_ret
    exact ⟨by rw [hz.out]; rfl, hB1⟩
  | true =>
    by_cases h1 : q < 1
    · have hz : Hid (rightB K M B q l = false) := Lib.hid (by simp [rightB, ordB, show ¬ 1 ≤ q by omega])
      go_wp2_with (fail)
      go_ret
      exact ⟨by rw [hz.out]; rfl, hB1⟩
    by_cases h2 : 1099511627776 < q
    · have hz : Hid (rightB K M B q l = false) := Lib.hid (by simp [rightB, ordB, show ¬ q ≤ 1099511627776 by omega])
      go_wp2_with (fail)
      go_ret
      exact ⟨by rw [hz.out]; rfl, hB1⟩
    by_cases h3 : (l.length : Int) < 1
    · have hz : Hid (rightB K M B q l = false) := Lib.hid (by simp [rightB, ordB, show ¬ 1 ≤ l.length by omega])
      go_wp2_with (fail)
      go_ret
      exact ⟨by rw [hz.out]; rfl, hB1⟩
    by_cases h4 : 16 < (l.length : Int)
    · have hz : Hid (rightB K M B q l = false) := Lib.hid (by simp [rightB, ordB, show ¬ l.length ≤ 16 by omega])
      go_wp2_with (fail)
      go_ret
      exact ⟨by rw [hz.out]; rfl, hB1⟩
    have hr0 : Hid (rightB K M B q l = restB (gStripes K M B) K (-1) (l.drop 0)) := Lib.hid (by
      have e1 : decide (1 ≤ q ∧ q ≤ 1099511627776) = true := decide_eq_true ⟨by omega, by omega⟩
      have e2 : decide (1 ≤ l.length ∧ l.length ≤ 16) = true := decide_eq_true ⟨by omega, by omega⟩
      unfold rightB ordB restB
      rw [hR, e1, e2]; simp)
    go_wp2_with (fail)
    clear b0
    go_loopw [6, 7] (fun a i wr => ∃ (k : Nat) (last : Int), k ≤ l.length ∧ i = .int .i64 (k : Int) ∧ a = .int .i64 last ∧ Below w1.heap.size w1 wr ∧ Hid (rightB K M B q l = restB (gStripes K M B) K last (l.drop k))) (fun _ i _ => l.length - (RowKit.intOf i).toNat)
    case atStart => exact ⟨0, -1, Nat.zero_le _, rfl, rfl, Below.refl _ _, hr0⟩
    case round =>
      obtain ⟨k, last, hk, rfl, rfl, hB, hrr⟩ := hrel
      rename World => wr
      clear hr0
      have c1 := (hB.cell (p := ⟨g + 1, 1, none⟩) hs).trans b1
      by_cases hlt : k < l.length
      · have y1 : (k : Int) < (l.length : Int) := by omega
        obtain ⟨p1, o1, rfl, A1, K1⟩ := gl k hlt
        have L1 := A1.below hB A1.lt
        replace K1 := K1.below hB
        have hdr : l.drop k = l[k] :: l.drop (k + 1) := List.drop_eq_getElem_cons hlt
        rw [hdr] at hrr
        clear A1 hdr
        generalize l[k] = s at *
        obtain ⟨rest, hrest⟩ : ∃ r, l.drop (k + 1) = r := ⟨_, rfl⟩
        rw [hrest] at hrr
        replace hrest := Lib.hid hrest
        obtain ⟨n, d, u⟩ := s
        obtain ⟨ua, uc, ev⟩ := K1.r.isSlice
        rw [List.length_map] at ev
        simp only at ev
        subst ev
        have ⟨f0, f1, fl⟩ := L1
        simp only at f0 f1
        have bk := (Below.refl wr.heap.size wr).alloc (Nat.le_refl _) (.cells #[.int .i64 n, .slice ua d.length uc] 76)
        have e0 := World.cell?_alloc_mark wr #[.int .i64 n, .slice ua d.length uc] 76 (0, 0) 0
        have e1 := World.cell?_alloc_mark wr #[.int .i64 n, .slice ua d.length uc] 76 (0, 0) 1
        have hlt2 : wr.heap.size < (wr.alloc (.cells #[.int .i64 n, .slice ua d.length uc] 76)).heap.size := by simp
        simp only [List.getElem?_toArray, List.getElem?_cons_zero, List.getElem?_cons_succ] at e0 e1
        go_upto_region 9 with (fail)
        have K2 := K1.below bk
        have B2 := below_c hB bk
        clear f0 f1 fl L1 K1 bk c1
        generalize wr.alloc (.cells #[.int .i64 n, .slice ua d.length uc] 76) = w2 at *
        obtain ⟨t, ht⟩ : ∃ t, wr.heap.size = t := ⟨_, rfl⟩
        rw [ht] at e0 e1 hlt2 ⊢
        clear ht
        have hg2 : g < w2.heap.size := by have := B2.size; omega
        have i0 := (B2.cell (p := ⟨g, 0, none⟩) (by show g < w1.heap.size; omega)).trans a0
        have i1 := (B2.cell (p := ⟨g, 1, none⟩) (by show g < w1.heap.size; omega)).trans a1
        have i2 := (B2.cell (p := ⟨g, 2, none⟩) (by show g < w1.heap.size; omega)).trans a2
        have cS := fun W => rstripes_any K M B W
        obtain ⟨top, htop⟩ : ∃ r, gStripes K M B = r := ⟨_, rfl⟩
        rw [htop] at hrr
        simp only [htop] at cS
        replace htop := Lib.hid htop
        by_cases h5 : n ≤ last
        · have hz : Hid (rightB K M B q l = false) := Lib.hid (by rw [hrr.out]; exact restB_le h5)
          refine wp_region_cls (Below w2.heap.size w2) (by kernel_rfl) (by kernel_rfl) (Below.refl _ _).drew ?_
          intro Z f hne hD hE
          have r0 : ∀ zz, (f zz).cell? ⟨t, 0, none⟩ = some (.int .i64 n) := fun zz => (clsCell hD zz _ _ hlt2).trans e0
          have r1 : ∀ zz, (f zz).cell? ⟨t, 1, none⟩ = some (.slice ua d.length uc) := fun zz => (clsCell hD zz _ _ hlt2).trans e1
          have r2 : ∀ zz, (f zz).cell? ⟨g, 0, none⟩ = some (.int .i64 K) := fun zz => (clsCell hD zz _ _ hg2).trans i0
          have r3 : ∀ zz, (f zz).cell? ⟨g, 1, none⟩ = some (.int .i64 M) := fun zz => (clsCell hD zz _ _ hg2).trans i1
          have r4 : ∀ zz, (f zz).cell? ⟨g, 2, none⟩ = some (.int .i64 B) := fun zz => (clsCell hD zz _ _ hg2).trans i2
          repeat (go_big_quiet_step (first | (go_at_call 36; with_reducible exact toQB hD hE _ (cS _))))
          refine wpQuiet_nil ?_
          intro _ hw'
          obtain ⟨zq, hw''⟩ := hw'
          subst hw''
          have B3 := below_c B2 (hD zq)
          clear r0 r1 r2 r3 r4
          go_wp2_with (fail)
          go_ret
          exact ⟨by rw [hz.out]; rfl, below_c hB1 B3⟩
        by_cases h6 : top ≤ n
        · have hz : Hid (rightB K M B q l = false) := Lib.hid (by rw [hrr.out]; exact restB_ge h6)
          refine wp_region_cls (Below w2.heap.size w2) (by kernel_rfl) (by kernel_rfl) (Below.refl _ _).drew ?_
          intro Z f hne hD hE
          have r0 : ∀ zz, (f zz).cell? ⟨t, 0, none⟩ = some (.int .i64 n) := fun zz => (clsCell hD zz _ _ hlt2).trans e0
          have r1 : ∀ zz, (f zz).cell? ⟨t, 1, none⟩ = some (.slice ua d.length uc) := fun zz => (clsCell hD zz _ _ hlt2).trans e1
          have r2 : ∀ zz, (f zz).cell? ⟨g, 0, none⟩ = some (.int .i64 K) := fun zz => (clsCell hD zz _ _ hg2).trans i0
          have r3 : ∀ zz, (f zz).cell? ⟨g, 1, none⟩ = some (.int .i64 M) := fun zz => (clsCell hD zz _ _ hg2).trans i1
          have r4 : ∀ zz, (f zz).cell? ⟨g, 2, none⟩ = some (.int .i64 B) := fun zz => (clsCell hD zz _ _ hg2).trans i2
          repeat (go_big_quiet_step (first | (go_at_call 36; with_reducible exact toQB hD hE _ (cS _))))
          refine wpQuiet_nil ?_
          intro _ hw'
          obtain ⟨zq, hw''⟩ := hw'
          subst hw''
          have B3 := below_c B2 (hD zq)
          clear r0 r1 r2 r3 r4
          go_wp2_with (fail)
          go_ret
          exact ⟨by rw [hz.out]; rfl, below_c hB1 B3⟩
        cases h7 : ((d.length : Int) == K) with
        | false =>
          have hz : Hid (rightB K M B q l = false) := Lib.hid (by rw [hrr.out]; exact restB_st (stB_len h7))
          refine wp_region_cls (Below w2.heap.size w2) (by kernel_rfl) (by kernel_rfl) (Below.refl _ _).drew ?_
          intro Z f hne hD hE
          have r0 : ∀ zz, (f zz).cell? ⟨t, 0, none⟩ = some (.int .i64 n) := fun zz => (clsCell hD zz _ _ hlt2).trans e0
          have r1 : ∀ zz, (f zz).cell? ⟨t, 1, none⟩ = some (.slice ua d.length uc) := fun zz => (clsCell hD zz _ _ hlt2).trans e1
          have r2 : ∀ zz, (f zz).cell? ⟨g, 0, none⟩ = some (.int .i64 K) := fun zz => (clsCell hD zz _ _ hg2).trans i0
          have r3 : ∀ zz, (f zz).cell? ⟨g, 1, none⟩ = some (.int .i64 M) := fun zz => (clsCell hD zz _ _ hg2).trans i1
          have r4 : ∀ zz, (f zz).cell? ⟨g, 2, none⟩ = some (.int .i64 B) := fun zz => (clsCell hD zz _ _ hg2).trans i2
          repeat (go_big_quiet_step (first | (go_at_call 36; with_reducible exact toQB hD hE _ (cS _))))
          refine wpQuiet_nil ?_
          intro _ hw'
          obtain ⟨zq, hw''⟩ := hw'
          subst hw''
          have B3 := below_c B2 (hD zq)
          clear r0 r1 r2 r3 r4
          go_wp2_with (fail)
          go_ret
          exact ⟨by rw [hz.out]; rfl, below_c hB1 B3⟩
        | true =>
          have hz : Hid (txtB d = true → rightB K M B q l = restB top K n rest) := Lib.hid fun hx => by
            rw [hrr.out]
            exact restB_ok (s := ⟨n, d, .slice ua d.length uc⟩) h5 h6 (by simp only [stB, h7, hx]; rfl)
          have hy : Hid (txtB d = false → rightB K M B q l = false) := Lib.hid fun hx => by
            rw [hrr.out]; exact restB_st (stB_txt hx)
          refine wp_region_cls (Below w2.heap.size w2) (by kernel_rfl) (by kernel_rfl) (Below.refl _ _).drew ?_
          intro Z f hne hD hE
          have r0 : ∀ zz, (f zz).cell? ⟨t, 0, none⟩ = some (.int .i64 n) := fun zz => (clsCell hD zz _ _ hlt2).trans e0
          have r1 : ∀ zz, (f zz).cell? ⟨t, 1, none⟩ = some (.slice ua d.length uc) := fun zz => (clsCell hD zz _ _ hlt2).trans e1
          have r2 : ∀ zz, (f zz).cell? ⟨g, 0, none⟩ = some (.int .i64 K) := fun zz => (clsCell hD zz _ _ hg2).trans i0
          have r3 : ∀ zz, (f zz).cell? ⟨g, 1, none⟩ = some (.int .i64 M) := fun zz => (clsCell hD zz _ _ hg2).trans i1
          have r4 : ∀ zz, (f zz).cell? ⟨g, 2, none⟩ = some (.int .i64 B) := fun zz => (clsCell hD zz _ _ hg2).trans i2
          repeat (go_big_quiet_step (first | (go_at_call 36; with_reducible exact toQB hD hE _ (cS _))))
          refine wpQuiet_nil ?_
          intro _ hw'
          obtain ⟨zq, hw''⟩ := hw'
          subst hw''
          have B3 := below_c B2 (hD zq)
          clear r0 r1 r2 r3 r4
          have E0 := (clsCell hD zq _ _ hlt2).trans e0
          have E1 := (clsCell hD zq _ _ hlt2).trans e1
          have hlt3 := Nat.lt_of_lt_of_le hlt2 (hD zq).size
          have K3 := K2.below (hD zq)
          clear hD hE e0 e1 hlt2 K2 B2 hrr cS
          generalize f zq = w3 at *
          go_wp2_with (fail)
          clear E0 h5 h6 h7
          obtain ⟨ua', uc', ev, gd⟩ := K3.r.items
          simp only [Value.slice.injEq, true_and] at ev
          obtain ⟨rfl, rfl⟩ := ev
          go_loopw [9] (fun j W => ∃ k : Nat, k ≤ d.length ∧ j = .int .i64 (k : Int) ∧ Below w3.heap.size w3 W ∧ Hid (∀ i (hi : i < d.length), i < k → (d[i].size : Int) = 120)) (fun j _ => d.length - (RowKit.intOf j).toNat)
          case atStart => exact ⟨0, Nat.zero_le _, rfl, Below.refl _ _, Lib.hid fun i hi h => absurd h (Nat.not_lt_zero _)⟩
          case round =>
            obtain ⟨i, hi, rfl, hW, hall⟩ := hrel
            rename World => W
            have E2 := (hW.cell (p := ⟨t, 1, none⟩) hlt3).trans E1
            have hdn := K3.n
            simp only at hdn
            by_cases hid : i < d.length
            · have y2 : (i : Int) < (d.length : Int) := by omega
              obtain ⟨p2, o2, rfl, l2, c2⟩ := gd i hid
              have c3 := (hW.cell (p := ⟨p2, o2 + i, none⟩) l2).trans c2
              by_cases h8 : (d[i].size : Int) = 120
              · have hall' : Hid (∀ j (hj : j < d.length), j < i + 1 → (d[j].size : Int) = 120) := Lib.hid fun j hj hji => by
                  by_cases e : j = i
                  · subst e; exact h8
                  · exact hall.out j hj (by omega)
                clear c2
                generalize d[i] = tx at *
                have t8 : ((tx.size : Int) == 120) = true := by rw [h8]; rfl
                go_wp2_with (fail)
                go_roundw
                case rel => exact ⟨i + 1, by omega, by go_num, hW, hall'⟩
                case measure => simp [RowKit.intOf]; omega
              · have hx := hy.out (txtB_no hid h8)
                replace hx := Lib.hid hx
                clear c2
                generalize d[i] = tx at *
                have t8 : ((tx.size : Int) == 120) = false := beq_eq_false_iff_ne.2 h8
                go_wp2_with (fail)
                go_ret
                exact ⟨by rw [hx.out]; rfl, below_c (below_c hB1 B3) hW⟩
            · have hx := hz.out (txtB_yes fun j hj => hall.out j hj (by omega))
              replace hx := Lib.hid hx
              have y2 : ¬ ((i : Int) < (d.length : Int)) := by omega
              go_wp2_with (fail)
              go_roundw
              case rel => exact ⟨k + 1, n, by omega, by go_num, rfl, below_c B3 hW, by rw [htop.out, hrest.out]; exact hx⟩
              case measure => simp [RowKit.intOf]; omega
      · have hz : Hid (rightB K M B q l = true) := Lib.hid (by
          rw [hrr.out, List.drop_eq_nil_of_le (by omega)]; rfl)
        have y1 : ¬ ((k : Int) < (l.length : Int)) := by omega
        go_wp2_with (fail)
        go_ret
        exact ⟨by rw [hz.out]; rfl, below_c hB1 hB⟩
end
section
open Go.RowKit
set_option linter.unusedVariables false
set_option linter.unusedSimpArgs false

open Rc
theorem incB_le {top last : Int} {s : St} {r : List St} (h : s.n ≤ last) : incB top last (s :: r) = false := by simp [incB_cons, h]
theorem incB_ge {top last : Int} {s : St} {r : List St} (h : s.n ≥ top) : incB top last (s :: r) = false := by simp [incB_cons, h]
theorem incB_ok {top last : Int} {s : St} {r : List St} (h1 : ¬ s.n ≤ last) (h2 : ¬ s.n ≥ top) : incB top last (s :: r) = incB top s.n r := by
  simp only [incB_cons, decide_eq_false h1, decide_eq_false h2, Bool.not_false, Bool.true_and]
set_option maxRecDepth 100000 in
set_option maxHeartbeats 4000000 in
theorem ordered_any (K M B q : Int) (v : Value) (l : List St) (w : World) (hl : SReads w v l) (hn : l.length ≤ 140737488355328) :
    Calls Tryz.prog 111 #[.agg #[.int .i64 K, .int .i64 M, .int .i64 B], .agg #[.int .i64 q, v]] w (Tells w (.bool (ordB K M B q l))) := by
  obtain ⟨ha, hb, hB0, hs⟩ := two_boxes w #[.int .i64 K, .int .i64 M, .int .i64 B] #[.int .i64 q, v] 23 30 _ rfl
  have hl1 := hl.below hB0
  obtain ⟨x, xc, rfl, gl⟩ := hl1
  have a0 := ha 0
  have a1 := ha 1
  have a2 := ha 2
  have b0 := hb 0
  have b1 := hb 1
  clear hl ha hb
  simp only [List.getElem?_toArray, List.getElem?_cons_zero, List.getElem?_cons_succ] at a0 a1 a2 b0 b1
  go_enter Tryz.func111, Tryz.ntmps111
  go_upto_region 1 with (fail)
  generalize (w.alloc (.cells #[.int .i64 K, .int .i64 M, .int .i64 B] 23)).alloc (.cells #[.int .i64 q, .slice x l.length xc] 30) = w0 at *
  obtain ⟨g, hg⟩ : ∃ g, w.heap.size = g := ⟨_, rfl⟩
  rw [hg] at a0 a1 a2 b0 b1 hs ⊢
  replace hg := Lib.hid hg
  go_wp2_with (fail)
  refine (gright_any K M B w0).mono ?_
  rintro e w1 ⟨rfl, bw⟩
  have hB1 := below_c hB0 bw
  replace a0 := (bw.cell (p := ⟨g, 0, none⟩) (by show g < w0.heap.size; omega)).trans a0
  replace a1 := (bw.cell (p := ⟨g, 1, none⟩) (by show g < w0.heap.size; omega)).trans a1
  replace a2 := (bw.cell (p := ⟨g, 2, none⟩) (by show g < w0.heap.size; omega)).trans a2
  replace b0 := (bw.cell (p := ⟨g + 1, 0, none⟩) hs).trans b0
  replace b1 := (bw.cell (p := ⟨g + 1, 1, none⟩) hs).trans b1
  replace hs := Nat.lt_of_lt_of_le hs bw.size
  replace gl : ∀ i (hi : i < l.length), ∃ b o, x = some ⟨b, o, none⟩ ∧ SAt w1 b (o + i * 2) l[i] ∧ SOk w1 l[i] := fun i hi => by
    obtain ⟨b, o, e1, e2, e3⟩ := gl i hi
    exact ⟨b, o, e1, e2.below bw e2.lt, e3.below bw⟩
  clear bw hB0 w0
  cases hR : gR K M B with
  | false =>
    have hz : Hid (ordB K M B q l = false) := Lib.hid (by simp [ordB, hR])
    go_wp2_with (fail)
    go_ret
    exact ⟨by rw [hz.out]; rfl, hB1⟩
  | true =>
    by_cases h1 : q < 1
    · have hz : Hid (ordB K M B q l = false) := Lib.hid (by simp [ordB, show ¬ 1 ≤ q by omega])
      go_wp2_with (fail)
      go_ret
      exact ⟨by rw [hz.out]; rfl, hB1⟩
    by_cases h2 : 1099511627776 < q
    · have hz : Hid (ordB K M B q l = false) := Lib.hid (by simp [ordB, show ¬ q ≤ 1099511627776 by omega])
      go_wp2_with (fail)
      go_ret
      exact ⟨by rw [hz.out]; rfl, hB1⟩
    by_cases h3 : (l.length : Int) < 1
    · have hz : Hid (ordB K M B q l = false) := Lib.hid (by simp [ordB, show ¬ 1 ≤ l.length by omega])
      go_wp2_with (fail)
      go_ret
      exact ⟨by rw [hz.out]; rfl, hB1⟩
    by_cases h4 : 16 < (l.length : Int)
    · have hz : Hid (ordB K M B q l = false) := Lib.hid (by simp [ordB, show ¬ l.length ≤ 16 by omega])
      go_wp2_with (fail)
      go_ret
      exact ⟨by rw [hz.out]; rfl, hB1⟩
    have hr0 : Hid (ordB K M B q l = incB (gStripes K M B) (-1) (l.drop 0)) := Lib.hid (by
      have e1 : decide (1 ≤ q ∧ q ≤ 1099511627776) = true := decide_eq_true ⟨by omega, by omega⟩
      have e2 : decide (1 ≤ l.length ∧ l.length ≤ 16) = true := decide_eq_true ⟨by omega, by omega⟩
      unfold ordB
      rw [hR, e1, e2]; simp)
    go_wp2_with (fail)
    clear b0
    go_loopw [5, 36] (fun a i wr => ∃ (k : Nat) (last : Int), k ≤ l.length ∧ i = .int .i64 (k : Int) ∧ a = .int .i64 last ∧ Below w1.heap.size w1 wr ∧ Hid (ordB K M B q l = incB (gStripes K M B) last (l.drop k))) (fun _ i _ => l.length - (RowKit.intOf i).toNat)
    case atStart => exact ⟨0, -1, Nat.zero_le _, rfl, rfl, Below.refl _ _, hr0⟩
    case round =>
      obtain ⟨k, last, hk, rfl, rfl, hB, hrr⟩ := hrel
      rename World => wr
      clear hr0
      have c1 := (hB.cell (p := ⟨g + 1, 1, none⟩) hs).trans b1
      by_cases hlt : k < l.length
      · have y1 : (k : Int) < (l.length : Int) := by omega
        obtain ⟨p1, o1, rfl, A1, K1⟩ := gl k hlt
        have L1 := A1.below hB A1.lt
        replace K1 := K1.below hB
        have hdr : l.drop k = l[k] :: l.drop (k + 1) := List.drop_eq_getElem_cons hlt
        rw [hdr] at hrr
        clear A1 hdr
        generalize l[k] = s at *
        obtain ⟨rest, hrest⟩ : ∃ r, l.drop (k + 1) = r := ⟨_, rfl⟩
        rw [hrest] at hrr
        replace hrest := Lib.hid hrest
        obtain ⟨n, d, u⟩ := s
        obtain ⟨ua, uc, ev⟩ := K1.r.isSlice
        rw [List.length_map] at ev
        simp only at ev
        subst ev
        have ⟨f0, f1, fl⟩ := L1
        simp only at f0 f1
        have bk := (Below.refl wr.heap.size wr).alloc (Nat.le_refl _) (.cells #[.int .i64 n, .slice ua d.length uc] 76)
        have e0 := World.cell?_alloc_mark wr #[.int .i64 n, .slice ua d.length uc] 76 (0, 0) 0
        have e1 := World.cell?_alloc_mark wr #[.int .i64 n, .slice ua d.length uc] 76 (0, 0) 1
        have hlt2 : wr.heap.size < (wr.alloc (.cells #[.int .i64 n, .slice ua d.length uc] 76)).heap.size := by simp
        simp only [List.getElem?_toArray, List.getElem?_cons_zero, List.getElem?_cons_succ] at e0 e1
        go_upto_region 7 with (fail)
        have K2 := K1.below bk
        have B2 := below_c hB bk
        clear f0 f1 fl L1 K1 bk c1
        generalize wr.alloc (.cells #[.int .i64 n, .slice ua d.length uc] 76) = w2 at *
        obtain ⟨t, ht⟩ : ∃ t, wr.heap.size = t := ⟨_, rfl⟩
        rw [ht] at e0 e1 hlt2 ⊢
        clear ht
        have hg2 : g < w2.heap.size := by have := B2.size; omega
        have i0 := (B2.cell (p := ⟨g, 0, none⟩) (by show g < w1.heap.size; omega)).trans a0
        have i1 := (B2.cell (p := ⟨g, 1, none⟩) (by show g < w1.heap.size; omega)).trans a1
        have i2 := (B2.cell (p := ⟨g, 2, none⟩) (by show g < w1.heap.size; omega)).trans a2
        have cS := fun W => stripes_any K M B W
        obtain ⟨top, htop⟩ : ∃ r, gStripes K M B = r := ⟨_, rfl⟩
        rw [htop] at hrr
        simp only [htop] at cS
        replace htop := Lib.hid htop
        by_cases h5 : n ≤ last
        · have hz : Hid (ordB K M B q l = false) := Lib.hid (by rw [hrr.out]; exact incB_le h5)
          refine wp_region_cls (Below w2.heap.size w2) (by kernel_rfl) (by kernel_rfl) (Below.refl _ _).drew ?_
          intro Z f hne hD hE
          have r0 : ∀ zz, (f zz).cell? ⟨t, 0, none⟩ = some (.int .i64 n) := fun zz => (clsCell hD zz _ _ hlt2).trans e0
          have r2 : ∀ zz, (f zz).cell? ⟨g, 0, none⟩ = some (.int .i64 K) := fun zz => (clsCell hD zz _ _ hg2).trans i0
          have r3 : ∀ zz, (f zz).cell? ⟨g, 1, none⟩ = some (.int .i64 M) := fun zz => (clsCell hD zz _ _ hg2).trans i1
          have r4 : ∀ zz, (f zz).cell? ⟨g, 2, none⟩ = some (.int .i64 B) := fun zz => (clsCell hD zz _ _ hg2).trans i2
          repeat (go_big_quiet_step (first | (go_at_call 109; with_reducible exact toQB hD hE _ (cS _))))
          refine wpQuiet_nil ?_
          intro _ hw'
          obtain ⟨zq, hw''⟩ := hw'
          subst hw''
          have B3 := below_c B2 (hD zq)
          clear r0 r2 r3 r4
          go_wp2_with (fail)
          go_ret
          exact ⟨by rw [hz.out]; rfl, below_c hB1 B3⟩
        by_cases h6 : top ≤ n
        · have hz : Hid (ordB K M B q l = false) := Lib.hid (by rw [hrr.out]; exact incB_ge h6)
          refine wp_region_cls (Below w2.heap.size w2) (by kernel_rfl) (by kernel_rfl) (Below.refl _ _).drew ?_
          intro Z f hne hD hE
          have r0 : ∀ zz, (f zz).cell? ⟨t, 0, none⟩ = some (.int .i64 n) := fun zz => (clsCell hD zz _ _ hlt2).trans e0
          have r2 : ∀ zz, (f zz).cell? ⟨g, 0, none⟩ = some (.int .i64 K) := fun zz => (clsCell hD zz _ _ hg2).trans i0
          have r3 : ∀ zz, (f zz).cell? ⟨g, 1, none⟩ = some (.int .i64 M) := fun zz => (clsCell hD zz _ _ hg2).trans i1
          have r4 : ∀ zz, (f zz).cell? ⟨g, 2, none⟩ = some (.int .i64 B) := fun zz => (clsCell hD zz _ _ hg2).trans i2
          repeat (go_big_quiet_step (first | (go_at_call 109; with_reducible exact toQB hD hE _ (cS _))))
          refine wpQuiet_nil ?_
          intro _ hw'
          obtain ⟨zq, hw''⟩ := hw'
          subst hw''
          have B3 := below_c B2 (hD zq)
          clear r0 r2 r3 r4
          go_wp2_with (fail)
          go_ret
          exact ⟨by rw [hz.out]; rfl, below_c hB1 B3⟩
        have hz : Hid (ordB K M B q l = incB top n rest) := Lib.hid (by
          rw [hrr.out]
          exact incB_ok (s := ⟨n, d, .slice ua d.length uc⟩) h5 h6)
        refine wp_region_cls (Below w2.heap.size w2) (by kernel_rfl) (by kernel_rfl) (Below.refl _ _).drew ?_
        intro Z f hne hD hE
        have r0 : ∀ zz, (f zz).cell? ⟨t, 0, none⟩ = some (.int .i64 n) := fun zz => (clsCell hD zz _ _ hlt2).trans e0
        have r2 : ∀ zz, (f zz).cell? ⟨g, 0, none⟩ = some (.int .i64 K) := fun zz => (clsCell hD zz _ _ hg2).trans i0
        have r3 : ∀ zz, (f zz).cell? ⟨g, 1, none⟩ = some (.int .i64 M) := fun zz => (clsCell hD zz _ _ hg2).trans i1
        have r4 : ∀ zz, (f zz).cell? ⟨g, 2, none⟩ = some (.int .i64 B) := fun zz => (clsCell hD zz _ _ hg2).trans i2
        repeat (go_big_quiet_step (first | (go_at_call 109; with_reducible exact toQB hD hE _ (cS _))))
        refine wpQuiet_nil ?_
        intro _ hw'
        obtain ⟨zq, hw''⟩ := hw'
        subst hw''
        have B3 := below_c B2 (hD zq)
        clear r0 r2 r3 r4
        have E0 := (clsCell hD zq _ _ hlt2).trans e0
        clear hD hE e0 e1 hlt2 K2 B2 hrr cS
        generalize f zq = w3 at *
        go_wp2_with (fail)
        go_roundw
        case rel => exact ⟨k + 1, n, by omega, by go_num, rfl, B3, by rw [htop.out, hrest.out]; exact hz⟩
        case measure => simp [RowKit.intOf]; omega
      · have hz : Hid (ordB K M B q l = true) := Lib.hid (by
          rw [hrr.out, List.drop_eq_nil_of_le (by omega)]; rfl)
        have y1 : ¬ ((k : Int) < (l.length : Int)) := by omega
        go_wp2_with (fail)
        go_ret
        exact ⟨by rw [hz.out]; rfl, below_c hB1 hB⟩
end
end Go.Proofs.YtfadglcpapiklaaGreatDoor
end
section
namespace Go.Proofs.YtfadglcpapiklaaGreatDoor
section
open Go Go.RowKit Go.Shelf
attribute [local go_sem] Oper.semAt_some
set_option linter.unusedVariables false
set_option linter.unusedSimpArgs false

open Rc
/-- The data of a record, in its order. -/
def allT (l : List St) : List ByteArray := l.flatMap fun s => s.d
/-- What has come when i stripes are over, and j texts of the next. -/
def cameT (l : List St) (i : Nat) : List ByteArray := allT (l.take i)
theorem cameT_zero (l : List St) : cameT l 0 = [] := rfl
theorem cameT_succ (l : List St) {i : Nat} (hi : i < l.length) : cameT l (i + 1) = cameT l i ++ l[i].d := by
  unfold cameT allT
  rw [List.take_succ_eq_append_getElem hi, List.flatMap_append]
  simp
theorem cameT_all (l : List St) : cameT l l.length = allT l := by unfold cameT; rw [List.take_length]
theorem cameT_pre (l : List St) {i j : Nat} (hi : i < l.length) : cameT l i ++ l[i].d.take j <+: allT l := by
  refine ⟨l[i].d.drop j ++ allT (l.drop (i + 1)), ?_⟩
  rw [List.append_assoc, ← List.append_assoc (l[i].d.take j), List.take_append_drop, ← List.append_assoc, ← cameT_succ l hi]
  unfold cameT allT
  rw [← List.flatMap_append, List.take_append_drop]
theorem cameT_lt (l : List St) {i j : Nat} (hi : i < l.length) (hj : j < l[i].d.length) : (cameT l i ++ l[i].d.take j).length < (allT l).length := by
  have h := (cameT_pre l (j := j + 1) hi).length_le
  rw [List.take_succ_eq_append_getElem hj] at h
  simp only [List.length_append, List.length_cons, List.length_nil] at h ⊢
  omega
theorem abides_alloc {β : Type} {B : Nat} {J : β → World → Prop} (h : AbidesFrom B J) {s : β} {W : World} (hs : J s W) (o : Obj) : J s (W.alloc o) :=
  h s W _ none hs (World.grownBy_alloc W o none) (fun r e => by cases e)
set_option maxRecDepth 100000 in
set_option maxHeartbeats 4000000 in
theorem contents1_in (F : Fence) (n : Nat) (hf : F.fn 117) (hro : F.round = none) (hn : 1 ≤ n) (l Bs B0 : Nat) (x : Option Addr) (xc : Nat) (ss : List St) (w0 : World) (hS : SReads w0 (.slice x ss.length xc) ss) (hss : ss.length ≤ 140737488351232) (J Jx : List ByteArray → World → Prop)
    (hY : ∀ pre t W, J pre W → pre.length < (allT ss).length → YieldAt F (n - 1) Tryz.prog l #[.string t] W fun e W' =>
      (e = .returned (.bool true) ∧ J (pre ++ [t]) W' ∧ Below w0.heap.size W W') ∨ (e = .returned (.bool false) ∧ Jx (pre ++ [t]) W'))
    (W : World) (hJ : AbidesFrom B0 J) (hW : Below w0.heap.size w0 W) (hBs : W.cell? ⟨Bs, 1, none⟩ = some (.slice x ss.length xc)) (h0 : J [] W) :
    CallsIn F n Tryz.prog 117 #[.func (.yield l) #[] #[], .pointer (some ⟨Bs, 0, none⟩)] W fun e W' => (∃ v, e = .returned v) ∧
      ((∃ ys, ys = allT ss ∧ J ys W') ∨ (∃ pre, pre <+: allT ss ∧ Jx pre W')) := by
  obtain ⟨x', xc', ev, gl⟩ := hS
  obtain ⟨rfl, rfl⟩ : x = x' ∧ xc = xc' := by simpa using ev
  clear ev
  refine callsIn_of_wp Tryz.func117 rfl hf ?_ hro
  simp only [Tryz.ntmps117, List.size_toArray, List.length_cons, List.length_nil, Nat.reduceAdd, Nat.reduceSub, Array.replicate_succ, Array.replicate_zero, List.push_toArray, List.append_toArray, List.nil_append, List.cons_append]
  gi_wp2
  clear hBs
  gi_loopw [10] (fun i wr => ∃ k : Nat, k ≤ ss.length ∧ i = .int .i64 (k : Int) ∧ J (cameT ss k) wr ∧ Below w0.heap.size w0 wr) (fun i _ => ss.length - (RowKit.intOf i).toNat)
  case atStart => exact ⟨0, Nat.zero_le _, rfl, h0, hW⟩
  case round =>
    obtain ⟨k, hk, rfl, hJs, hB⟩ := hrel
    rename World => wr
    clear h0 hW
    by_cases hlt : k < ss.length
    · have y1 : (k : Int) < (ss.length : Int) := by omega
      obtain ⟨p1, o1, rfl, A1, K1⟩ := gl k hlt
      have L1 := A1.below hB A1.lt
      have K2 := K1.below hB
      have hcs := cameT_succ ss hlt
      have hcp := fun j => cameT_pre ss (j := j) hlt
      have hcl := fun j => cameT_lt ss (j := j) hlt
      clear A1
      generalize ss[k] = s at *
      obtain ⟨m, d, u⟩ := s
      obtain ⟨ua, uc, ev, gd⟩ := K1.r.items
      simp only at ev
      subst ev
      have ⟨f0, f1, fl⟩ := L1
      simp only at f0 f1 hcs hcp hcl
      have bk := (Below.refl wr.heap.size wr).alloc (Nat.le_refl _) (.cells #[.int .i64 m, .slice ua d.length uc] 76)
      have e1 := World.cell?_alloc_mark wr #[.int .i64 m, .slice ua d.length uc] 76 (0, 0) 1
      simp only [List.getElem?_toArray, List.getElem?_cons_zero, List.getElem?_cons_succ] at e1
      have hJ2 := abides_alloc hJ hJs (.cells #[.int .i64 m, .slice ua d.length uc] 76)
      have B2 := below_c hB bk
      have hdn := K1.n
      simp only at hdn
      gi_wp2
      clear f0 f1 fl L1 K1 K2 bk hJs e1
      generalize wr.alloc (.cells #[.int .i64 m, .slice ua d.length uc] 76) = w2 at *
      gi_loopw [17] (fun j W => ∃ i : Nat, i ≤ d.length ∧ j = .int .i64 (i : Int) ∧ J (cameT ss k ++ d.take i) W ∧ Below w0.heap.size w0 W) (fun j _ => d.length - (RowKit.intOf j).toNat)
      case atStart => exact ⟨0, Nat.zero_le _, rfl, by rw [List.take_zero, List.append_nil]; exact hJ2, B2⟩
      case round =>
        obtain ⟨i, hi, rfl, hJi, hW⟩ := hrel
        rename World => W3
        clear hJ2 B2
        by_cases hid : i < d.length
        · have y2 : (i : Int) < (d.length : Int) := by omega
          obtain ⟨p2, o2, rfl, l2, c2⟩ := gd i hid
          have c3 := (hW.cell (p := ⟨p2, o2 + i, none⟩) l2).trans c2
          have hts := List.take_succ_eq_append_getElem hid
          obtain ⟨fn, tmps, assign, body, hy, hR⟩ := hY _ d[i] W3 hJi (hcl i hid)
          have hc3 : cameT ss k ++ d.take i ++ [d[i]] = cameT ss k ++ d.take (i + 1) := by rw [hts, List.append_assoc]
          rw [hc3] at hR
          clear c2 hts hc3
          generalize d[i] = tx at *
          gi_wp2
          refine hR.mono ?_
          rintro e W4 (⟨rfl, hJ3, hk3⟩ | ⟨rfl, hJx3⟩)
          · gi_wp2
            go_roundw
            case rel => exact ⟨i + 1, by omega, by simp, hJ3, hW.trans hk3⟩
            case measure => simp [RowKit.intOf]; omega
          · gi_wp2
            refine bodyPost_ret (results_none rfl _ _ _) rfl ?_
            exact ⟨⟨_, rfl⟩, .inr ⟨_, hcp (i + 1), hJx3⟩⟩
        · obtain rfl : i = d.length := by omega
          rw [List.take_length, ← hcs] at hJi
          gi_wp2
          go_roundw
          case rel => exact ⟨k + 1, by omega, by simp, hJi, hW⟩
          case measure => simp [RowKit.intOf]; omega
    · obtain rfl : k = ss.length := by omega
      rw [cameT_all] at hJs
      gi_wp2
      go_end0
      exact ⟨⟨_, rfl⟩, .inl ⟨_, rfl, hJs⟩⟩
end
section
open Go Go.RowKit Go.Shelf
attribute [local go_sem] Oper.semAt_some
set_option linter.unusedVariables false
set_option linter.unusedSimpArgs false

open Rc
theorem contents_in (q : Int) (v : Value) (w : World) :
    Calls Tryz.prog 86 #[.agg #[.int .i64 q, v]] w fun e w' => e = .returned (.func (.func 117) #[] #[.pointer (some ⟨w.heap.size, 0, none⟩)]) ∧ w' = w.alloc (.cells #[.int .i64 q, v] 30) := by
  go_enter Tryz.func86, Tryz.ntmps86
  go_wp2_with (fail)
  go_ret
  exact ⟨rfl, rfl⟩
theorem contents_stops (F : Fence) (n : Nat) (hf : F.fn 117) (hro : F.round = none) (hn : 1 ≤ n) (Bs : Nat) (x : Option Addr) (xc : Nat) (ss : List St) (w0 : World) (hS : SReads w0 (.slice x ss.length xc) ss) (hss : ss.length ≤ 140737488351232)
    (w : World) (hBs : Bs < w.heap.size) (hB : Below w0.heap.size w0 w) (hc : w.cell? ⟨Bs, 1, none⟩ = some (.slice x ss.length xc)) :
    SeqStopsK F n Tryz.prog 117 #[.pointer (some ⟨Bs, 0, none⟩)] (fun t : ByteArray => #[.string t]) (Below w0.heap.size) (fun ys => ys = allT ss) (fun pre => pre <+: allT ss) (allT ss).length w := fun l J Jx W hW hJ hJx hY h0 => by
  have hc' := (hW.cell (p := ⟨Bs, 1, none⟩) hBs).trans hc
  exact contents1_in F n hf hro hn l Bs W.heap.size x xc ss w0 hS hss J Jx hY W hJ (hB.trans (hW.mono hB.size)) hc' h0
theorem three_boxes (w : World) (c d e : Array Value) (S T U : TypeId) : ∀ W, W = ((w.alloc (.cells c S)).alloc (.cells d T)).alloc (.cells e U) →
    (∀ j, W.cell? ⟨w.heap.size, j, none⟩ = c[j]?) ∧ (∀ j, W.cell? ⟨w.heap.size + 1, j, none⟩ = d[j]?) ∧ (∀ j, W.cell? ⟨w.heap.size + 1 + 1, j, none⟩ = e[j]?) ∧ (∀ j, W.frozen? ⟨w.heap.size + 1 + 1, j, none⟩ = false) ∧ Below w.heap.size w W ∧ w.heap.size + 1 + 1 < W.heap.size := by
  rintro W rfl
  obtain ⟨h1, h2, h3, h4⟩ := two_boxes w c d S T _ rfl
  have es : ((w.alloc (.cells c S)).alloc (.cells d T)).heap.size = w.heap.size + 1 + 1 := by simp
  refine ⟨fun j => ?_, fun j => ?_, fun j => ?_, fun j => ?_, h3.alloc (by rw [es]; omega) _, by simp⟩
  · rw [World.cell?_alloc_old _ _ _ (by rw [es]; show w.heap.size ≠ _; omega)]; exact h1 j
  · rw [World.cell?_alloc_old _ _ _ (by rw [es]; show w.heap.size + 1 ≠ _; omega)]; exact h2 j
  · have := World.cell?_alloc_mark ((w.alloc (.cells c S)).alloc (.cells d T)) e U (0, 0) j
    rw [es] at this; exact this
  · have := frozen_of_row (((w.alloc (.cells c S)).alloc (.cells d T)).alloc (.cells e U)) (w.heap.size + 1 + 1) j e U (by rw [← es]; exact heap_alloc_new _ _)
    exact this
set_option maxRecDepth 100000 in
set_option maxHeartbeats 4000000 in
theorem right11_any (K M B q : Int) (v : Value) (l : List St) (w : World) (hl : SReads w v l) (hn : l.length ≤ 140737488351232) :
    Calls Tryz.prog 82 #[.agg #[.int .i64 K, .int .i64 M, .int .i64 B], .agg #[.int .i64 q, v]] w (Tells w (.bool (rightB K M B q l))) := by
  obtain ⟨x, xc, rfl, gl⟩ := id hl
  obtain ⟨ha, hb, hc, hfz, hB0, hs⟩ := three_boxes w #[.int .i64 K, .int .i64 M, .int .i64 B] #[.int .i64 q, .slice x l.length xc] #[.bool false] 23 30 4 _ rfl
  have hl1 := hl.below hB0
  have cO := ordered_any K M B q (.slice x l.length xc) l _ hl1 (by omega)
  have a0 := ha 0
  have a1 := ha 1
  have a2 := ha 2
  have b0 := hb 0
  have b1 := hb 1
  have r0 := hc 0
  have rf := hfz 0
  clear hl1 ha hb hc hfz
  simp only [List.getElem?_toArray, List.getElem?_cons_zero, List.getElem?_cons_succ] at a0 a1 a2 b0 b1 r0
  refine callsIn_wide.1 (callsIn_of_wp_marks (n := 6) Tryz.func82 rfl trivial ?_ rfl)
  simp only [Tryz.ntmps82, List.size_toArray, List.length_cons, List.length_nil, Nat.reduceAdd, Nat.reduceSub, Array.replicate_succ, Array.replicate_zero, List.push_toArray, List.append_toArray, List.nil_append, List.cons_append]
  gi_wp2_with (fail)
  refine ⟨trivial, (callsIn_wide.2 cO).mono ?_⟩
  rintro e w1 ⟨rfl, bw⟩
  have hB1 := below_c hB0 bw
  obtain ⟨g, hg⟩ : ∃ g, w.heap.size = g := ⟨_, rfl⟩
  rw [hg] at a0 a1 a2 b0 b1 r0 rf hs
  replace a0 := (bw.cell (p := ⟨g, 0, none⟩) (by show g < _; omega)).trans a0
  replace b1 := (bw.cell (p := ⟨g + 1, 1, none⟩) (by show g + 1 < _; omega)).trans b1
  replace b0 := (bw.cell (p := ⟨g + 1, 0, none⟩) (by show g + 1 < _; omega)).trans b0
  replace r0 := (bw.cell (p := ⟨g + 1 + 1, 0, none⟩) hs).trans r0
  replace rf := (bw.frozen (p := ⟨g + 1 + 1, 0, none⟩) hs).trans rf
  replace hs := Nat.lt_of_lt_of_le hs bw.size
  clear bw hB0 cO a1 a2
  rw [hg]
  cases hO : ordB K M B q l with
  | false =>
    have hz : Hid (rightB K M B q l = false) := Lib.hid (by simp [rightB, hO])
    gi_wp2_with (fail)
    have hc5 := World.cell?_setCell_same' w1 ⟨g + 1 + 1, 0, none⟩ (.bool false) (by rw [r0]; rfl)
    have hB2 := hB1.setCell (p := ⟨g + 1 + 1, 0, none⟩) (by show w.heap.size ≤ g + 1 + 1; omega) (.bool false)
    refine ⟨.bool false, ?_, by rw [hz.out], hB2⟩
    simp [results, Tryz.f82, go_sem, hc5]
  | true =>
    have hr1 : Hid ((∀ i (hi : i < l.length), ((l[i].d.length : Int) == K) = true) → (∀ t ∈ allT l, (t.size : Int) = 120) → rightB K M B q l = true) := Lib.hid fun h1 h2 => by
      unfold rightB
      rw [hO, Bool.true_and, List.all_eq_true]
      intro s hs
      obtain ⟨i, hi, rfl⟩ := List.getElem_of_mem hs
      unfold stB
      rw [h1 i hi, Bool.true_and]
      exact txtB_yes fun j hj => h2 _ (List.mem_flatMap.2 ⟨_, List.getElem_mem hi, List.getElem_mem hj⟩)
    have hr2 : Hid (∀ i (hi : i < l.length), ((l[i].d.length : Int) == K) = false → rightB K M B q l = false) := Lib.hid fun i hi h => by
      unfold rightB
      rw [Bool.and_eq_false_iff]; right
      rw [List.all_eq_false]
      exact ⟨_, List.getElem_mem hi, by rw [stB_len h]; simp⟩
    have hr3 : Hid (∀ t ∈ allT l, ¬ (t.size : Int) = 120 → rightB K M B q l = false) := Lib.hid fun t ht h => by
      obtain ⟨s, hs, hts⟩ := List.mem_flatMap.1 ht
      unfold rightB
      rw [Bool.and_eq_false_iff]; right
      rw [List.all_eq_false]
      refine ⟨s, hs, ?_⟩
      obtain ⟨j, hj, rfl⟩ := List.getElem_of_mem hts
      rw [stB_txt (txtB_no hj h)]; simp
    replace hg := Lib.hid hg
    gi_wp2_with (fail)
    gi_loopw [15] (fun i W => ∃ k : Nat, k ≤ l.length ∧ i = .int .i64 (k : Int) ∧ Below w1.heap.size w1 W ∧ Hid (∀ i (hi : i < l.length), i < k → ((l[i].d.length : Int) == K) = true)) (fun i _ => l.length - (RowKit.intOf i).toNat)
    case atStart => exact ⟨0, Nat.zero_le _, rfl, Below.refl _ _, Lib.hid fun i hi h => absurd h (Nat.not_lt_zero _)⟩
    case round =>
      obtain ⟨k, hk, rfl, hB, hall⟩ := hrel
      rename World => wr
      have c0 := (hB.cell (p := ⟨g, 0, none⟩) (by show g < w1.heap.size; omega)).trans a0
      by_cases hlt : k < l.length
      · have y1 : (k : Int) < (l.length : Int) := by omega
        obtain ⟨p1, o1, rfl, A1, K1⟩ := gl k hlt
        have Bw := below_c hB1 hB
        have L1 := A1.below Bw A1.lt
        have K2 := K1.below Bw
        have hr2k := hr2.out k hlt
        have hallk : ((l[k].d.length : Int) == K) = true → Hid (∀ i (hi : i < l.length), i < k + 1 → ((l[i].d.length : Int) == K) = true) := fun h => Lib.hid fun i hi hik => by
          by_cases e : i = k
          · subst e; exact h
          · exact hall.out i hi (by omega)
        clear A1 K1
        generalize l[k] = s at *
        obtain ⟨m, d, u⟩ := s
        obtain ⟨ua, uc, ev⟩ := K2.r.isSlice
        rw [List.length_map] at ev
        simp only at ev
        subst ev
        have ⟨f0, f1, fl⟩ := L1
        simp only at f0 f1 hr2k hallk
        have bk := (Below.refl wr.heap.size wr).alloc (Nat.le_refl _) (.cells #[.int .i64 m, .slice ua d.length uc] 76)
        have e1 := World.cell?_alloc_mark wr #[.int .i64 m, .slice ua d.length uc] 76 (0, 0) 1
        simp only [List.getElem?_toArray, List.getElem?_cons_zero, List.getElem?_cons_succ] at e1
        have hgw : g < wr.heap.size := by have := hB.size; omega
        have c0' := (bk.cell (p := ⟨g, 0, none⟩) hgw).trans c0
        have B2 := below_c hB bk
        have rq := (B2.cell (p := ⟨g + 1 + 1, 0, none⟩) hs).trans r0
        have rz := (B2.frozen (p := ⟨g + 1 + 1, 0, none⟩) hs).trans rf
        cases hx : ((d.length : Int) == K) with
        | true =>
          have hall' := hallk hx
          clear hr2k hallk
          gi_wp2_with (fail)
          go_roundw
          case rel => exact ⟨k + 1, by omega, by simp, B2, hall'⟩
          case measure => simp [RowKit.intOf]; omega
        | false =>
          have hz := Lib.hid (hr2k hx)
          clear hr2k hallk
          gi_wp2_with (fail)
          have hc5 := World.cell?_setCell_same' (wr.alloc (.cells #[.int .i64 m, .slice ua d.length uc] 76)) ⟨g + 1 + 1, 0, none⟩ (.bool false) (by rw [rq]; rfl)
          have hB3 := (below_c hB1 B2).setCell (p := ⟨g + 1 + 1, 0, none⟩) (by show w.heap.size ≤ g + 1 + 1; have := hg.out; omega) (.bool false)
          refine ⟨.bool false, ?_, by rw [hz.out], hB3⟩
          simp [results, Tryz.f82, go_sem, hc5]
      · obtain rfl : k = l.length := by omega
        have d0 := (hB.cell (p := ⟨g + 1, 0, none⟩) (by show g + 1 < w1.heap.size; omega)).trans b0
        have d1 := (hB.cell (p := ⟨g + 1, 1, none⟩) (by show g + 1 < w1.heap.size; omega)).trans b1
        gi_wp2_with (fail)
        refine ⟨trivial, (callsIn_wide.2 (contents_in q (.slice x l.length xc) wr)).mono ?_⟩
        rintro e w3 ⟨rfl, hw3⟩
        have Bw := below_c hB1 hB
        have B3 : Below w.heap.size w w3 := by rw [hw3]; exact Bw.alloc Bw.size _
        have s3 : w3.heap.size = wr.heap.size + 1 := by rw [hw3]; simp
        have hwr := hB.size
        have cB : w3.cell? ⟨wr.heap.size, 1, none⟩ = some (.slice x l.length xc) := by rw [hw3, World.cell?_alloc_mark]; rfl
        have q0 : w3.cell? ⟨g + 1 + 1, 0, none⟩ = some (.bool false) := by rw [hw3]; exact cell_alloc_l _ ((hB.cell (p := ⟨g + 1 + 1, 0, none⟩) hs).trans r0)
        have qf : w3.frozen? ⟨g + 1 + 1, 0, none⟩ = false := by rw [hw3]; exact frozen_alloc_l _ ((hB.cell (p := ⟨g + 1 + 1, 0, none⟩) hs).trans r0) ((hB.frozen (p := ⟨g + 1 + 1, 0, none⟩) hs).trans rf)
        have hgw : w.heap.size ≤ g + 1 + 1 := by have := hg.out; omega
        have hr1' := hr1.out (fun i hi => hall.out i hi hi)
        replace hr1' := Lib.hid hr1'
        have hws := B3.size
        clear hw3 a0 b0 b1 r0 rf c0 d0 d1 hall hr2 hr1
        gi_wp2_with (fail)
        refine wpIn_rangeFunc_ownF rfl (by decide) (gf := 117) (lb := #[.pointer (some ⟨wr.heap.size, 0, none⟩)]) rfl trivial (enters_of Tryz.func117 (by kernel_rfl) rfl)
          (contents_stops .wide (6 - 1) trivial rfl (by decide) wr.heap.size x xc l w hl hn w3 (by omega) B3 cB) belowK_t (belowK_b hws) (Below.refl _ _) (fun _ => rfl)
          (fun pre W => ((∀ t ∈ pre, (t.size : Int) = 120) ∧ W.cell? ⟨g + 1 + 1, 0, none⟩ = some (.bool false) ∧ W.frozen? ⟨g + 1 + 1, 0, none⟩ = false) ∧ Below w.heap.size w W)
          (fun c pre W => (c = .ret ∧ (∃ t ∈ pre, ¬ (t.size : Int) = 120) ∧ W.cell? ⟨g + 1 + 1, 0, none⟩ = some (.bool false)) ∧ Below w.heap.size w W)
          (OwnFrom.and (Own.from (fun s A B row hs hg hr => ⟨hs.1, cell_kept hs.2.1 hg hr, (frozen_kept hs.2.1 hg hr).trans hs.2.2⟩) _) (ownFrom_below (Nat.le_refl _) hws))
          (fun c => OwnFrom.and (Own.from (fun s A B row hs hg hr => ⟨hs.1, hs.2.1, cell_kept hs.2.2 hg hr⟩) _) (ownFrom_below (Nat.le_refl _) hws))
          ⟨⟨(fun t ht => by cases ht), q0, qf⟩, B3⟩ ?a1 ?assign ?body ?done ?stop
        case assign =>
          intro l x W K hK
          gi_wp2
          exact hK
        case body =>
          rintro ll pre t W ⟨⟨hp, hcr, hfr⟩, hB⟩ _
          by_cases ht : (t.size : Int) = 120
          · have t1 : ((t.size : Int) == 120) = true := by rw [ht]; rfl
            gi_wp2
            exact ⟨KeepsOthers.refl _, Below.refl _ _, ⟨fun y hy => (List.mem_append.1 hy).elim (hp y) (fun e => by simp at e; subst e; exact ht), hcr, hfr⟩, hB⟩
          · have t1 : ((t.size : Int) == 120) = false := beq_eq_false_iff_ne.2 ht
            gi_wp2
            exact ⟨KeepsOthers.setCell _ _ _, ⟨rfl, ⟨t, List.mem_append.2 (.inr (by simp)), ht⟩, World.cell?_setCell_same' _ _ _ (by rw [hcr]; rfl)⟩, hB.setCell (p := ⟨g + 1 + 1, 0, none⟩) hgw _⟩
        case done =>
          rintro D ys W hD rfl ⟨⟨hne, hcr, hfr⟩, hB⟩ hK
          gi_wp2
          have hK' := (KeepsOthers.setCell W ⟨g + 1 + 1, 0, none⟩ (.bool true)).same D _ hK rfl
          refine ⟨by simp, .inl ⟨_, _, rfl, run_takeDeferred hK', ?_⟩⟩
          have hc5 := cell_kept (World.cell?_setCell_same' W ⟨g + 1 + 1, 0, none⟩ (.bool true) (by rw [hcr]; rfl)) (grownBy_putObj' _ D (.deferred none)) (fun r e => by cases e; exact ⟨_, hK', rfl⟩)
          refine ⟨.bool true, ?_, by rw [hr1'.out hne], (hB.setCell (p := ⟨g + 1 + 1, 0, none⟩) hgw _).trans (belowK_b (w := w) (Nat.le_refl _) _ D _ _ (by omega) hK' rfl rfl)⟩
          simp [results, Tryz.f82, go_sem, hc5]
        case stop =>
          rintro D c pre W hD hpre ⟨⟨rfl, ⟨t, htp, ht⟩, hcr⟩, hB⟩ hK
          gi_wp2
          refine ⟨by simp, .inl ⟨_, _, rfl, run_takeDeferred hK, ?_⟩⟩
          have hc5 := cell_kept hcr (grownBy_putObj' _ D (.deferred none)) (fun r e => by cases e; exact ⟨_, hK, rfl⟩)
          refine ⟨.bool false, ?_, by rw [hr3.out t (hpre.subset htp) ht], hB.trans (belowK_b (w := w) (Nat.le_refl _) W D _ _ (by omega) hK rfl rfl)⟩
          simp [results, Tryz.f82, go_sem, hc5]
end
end Go.Proofs.YtfadglcpapiklaaGreatDoor
end
section
namespace Go.Proofs.YtfadglcpapiklaaGreatDoor
section
open Go Go.RowKit Go.Shelf
attribute [local go_sem] Oper.semAt_some
set_option linter.unusedVariables false
set_option linter.unusedSimpArgs false

open Rc
/-- The state behind some texts. -/
def crcT (l : List ByteArray) : Nat := l.foldl (fun n t => Crc.go n t.data.toList) 4294967295
theorem crcT_snoc (l : List ByteArray) (t : ByteArray) : crcT (l ++ [t]) = Crc.go (crcT l) t.data.toList := by unfold crcT; rw [List.foldl_append]; rfl
theorem crcF_lt : ∀ (l : List ByteArray) (n : Nat), n < 4294967296 → l.foldl (fun n t => Crc.go n t.data.toList) n < 4294967296
  | [], n, h => h
  | t :: r, n, h => crcF_lt r _ (Crc.go_lt h _)
theorem crcT_lt (l : List ByteArray) : crcT l < 4294967296 := crcF_lt l _ (by decide)
def sumT (l : List ByteArray) : Nat := Crc.fin (crcT l)
theorem sumT_lt (l : List ByteArray) : sumT l < 4294967296 := by
  have h := crcT_lt l
  unfold sumT
  rw [fin_sub _ h]; omega
set_option maxRecDepth 100000 in
set_option maxHeartbeats 4000000 in
theorem contents2_in (F : Fence) (n : Nat) (hf : F.fn 117) (hro : F.round = none) (hn : 1 ≤ n) (l Bs B0 : Nat) (x : Option Addr) (xc : Nat) (ss : List St) (w0 : World) (hS : SReads w0 (.slice x ss.length xc) ss) (hss : ss.length ≤ 140737488351232) (J Jx : List {t : ByteArray // t ∈ allT ss} → World → Prop)
    (hY : ∀ pre (t : {t : ByteArray // t ∈ allT ss}) W, J pre W → pre.length < (allT ss).length → YieldAt F (n - 1) Tryz.prog l #[.string t.1] W fun e W' =>
      (e = .returned (.bool true) ∧ J (pre ++ [t]) W' ∧ Below w0.heap.size W W') ∨ (e = .returned (.bool false) ∧ Jx (pre ++ [t]) W'))
    (W : World) (hJ : AbidesFrom B0 J) (hW : Below w0.heap.size w0 W) (hBs : W.cell? ⟨Bs, 1, none⟩ = some (.slice x ss.length xc)) (h0 : J [] W) :
    CallsIn F n Tryz.prog 117 #[.func (.yield l) #[] #[], .pointer (some ⟨Bs, 0, none⟩)] W fun e W' => (∃ v, e = .returned v) ∧
      ((∃ ys : List {t : ByteArray // t ∈ allT ss}, ys.map (·.1) = allT ss ∧ J ys W') ∨ (∃ pre : List {t : ByteArray // t ∈ allT ss}, pre.map (·.1) <+: allT ss ∧ Jx pre W')) := by
  obtain ⟨x', xc', ev, gl⟩ := hS
  obtain ⟨rfl, rfl⟩ : x = x' ∧ xc = xc' := by simpa using ev
  clear ev
  refine callsIn_of_wp Tryz.func117 rfl hf ?_ hro
  simp only [Tryz.ntmps117, List.size_toArray, List.length_cons, List.length_nil, Nat.reduceAdd, Nat.reduceSub, Array.replicate_succ, Array.replicate_zero, List.push_toArray, List.append_toArray, List.nil_append, List.cons_append]
  gi_wp2
  clear hBs
  gi_loopw [10] (fun i wr => ∃ k : Nat, k ≤ ss.length ∧ i = .int .i64 (k : Int) ∧ (∃ ys : List {t : ByteArray // t ∈ allT ss}, ys.map (·.1) = cameT ss k ∧ J ys wr) ∧ Below w0.heap.size w0 wr) (fun i _ => ss.length - (RowKit.intOf i).toNat)
  case atStart => exact ⟨0, Nat.zero_le _, rfl, ⟨[], rfl, h0⟩, hW⟩
  case round =>
    obtain ⟨k, hk, rfl, ⟨ys, hys, hJs⟩, hB⟩ := hrel
    rename World => wr
    clear h0 hW
    by_cases hlt : k < ss.length
    · have y1 : (k : Int) < (ss.length : Int) := by omega
      obtain ⟨p1, o1, rfl, A1, K1⟩ := gl k hlt
      have L1 := A1.below hB A1.lt
      have K2 := K1.below hB
      have hcs := cameT_succ ss hlt
      have hmem : ∀ i (hi : i < ss[k].d.length), ss[k].d[i] ∈ allT ss := fun i hi => List.mem_flatMap.2 ⟨_, List.getElem_mem hlt, List.getElem_mem hi⟩
      have hcp := fun j => cameT_pre ss (j := j) hlt
      have hcl := fun j => cameT_lt ss (j := j) hlt
      clear A1
      generalize ss[k] = s at *
      obtain ⟨m, d, u⟩ := s
      obtain ⟨ua, uc, ev, gd⟩ := K1.r.items
      simp only at ev
      subst ev
      have ⟨f0, f1, fl⟩ := L1
      simp only at f0 f1 hcs hcp hcl hmem
      have bk := (Below.refl wr.heap.size wr).alloc (Nat.le_refl _) (.cells #[.int .i64 m, .slice ua d.length uc] 76)
      have e1 := World.cell?_alloc_mark wr #[.int .i64 m, .slice ua d.length uc] 76 (0, 0) 1
      simp only [List.getElem?_toArray, List.getElem?_cons_zero, List.getElem?_cons_succ] at e1
      have hJ2 := abides_alloc hJ hJs (.cells #[.int .i64 m, .slice ua d.length uc] 76)
      have B2 := below_c hB bk
      have hdn := K1.n
      simp only at hdn
      gi_wp2
      clear f0 f1 fl L1 K1 K2 bk hJs e1
      generalize wr.alloc (.cells #[.int .i64 m, .slice ua d.length uc] 76) = w2 at *
      gi_loopw [17] (fun j W => ∃ i : Nat, i ≤ d.length ∧ j = .int .i64 (i : Int) ∧ (∃ ys : List {t : ByteArray // t ∈ allT ss}, ys.map (·.1) = cameT ss k ++ d.take i ∧ J ys W) ∧ Below w0.heap.size w0 W) (fun j _ => d.length - (RowKit.intOf j).toNat)
      case atStart => exact ⟨0, Nat.zero_le _, rfl, ⟨ys, by rw [List.take_zero, List.append_nil]; exact hys, hJ2⟩, B2⟩
      case round =>
        obtain ⟨i, hi, rfl, ⟨zs, hzs, hJi⟩, hW⟩ := hrel
        rename World => W3
        clear hJ2 B2
        by_cases hid : i < d.length
        · have y2 : (i : Int) < (d.length : Int) := by omega
          obtain ⟨p2, o2, rfl, l2, c2⟩ := gd i hid
          have c3 := (hW.cell (p := ⟨p2, o2 + i, none⟩) l2).trans c2
          have hts := List.take_succ_eq_append_getElem hid
          obtain ⟨tt, htt⟩ : ∃ tt : {t : ByteArray // t ∈ allT ss}, tt.1 = d[i] := ⟨⟨d[i], hmem i hid⟩, rfl⟩
          obtain ⟨fn, tmps, assign, body, hy, hR⟩ := hY zs tt W3 hJi (by have h1 := hcl i hid; rw [← hzs, List.length_map] at h1; exact h1)
          have hc3 : (zs ++ [tt]).map (·.1) = cameT ss k ++ d.take (i + 1) := by rw [List.map_append, hzs, hts, ← List.append_assoc]; simp [htt]
          generalize zs ++ [tt] = zs' at *
          rw [htt] at hy
          clear hmem htt
          clear c2 hts
          generalize d[i] = tx at *
          gi_wp2
          refine hR.mono ?_
          rintro e W4 (⟨rfl, hJ3, hk3⟩ | ⟨rfl, hJx3⟩)
          · gi_wp2
            go_roundw
            case rel => exact ⟨i + 1, by omega, by simp, ⟨zs', hc3, hJ3⟩, hW.trans hk3⟩
            case measure => simp [RowKit.intOf]; omega
          · gi_wp2
            refine bodyPost_ret (results_none rfl _ _ _) rfl ?_
            exact ⟨⟨_, rfl⟩, .inr ⟨zs', by rw [hc3]; exact hcp (i + 1), hJx3⟩⟩
        · obtain rfl : i = d.length := by omega
          rw [List.take_length, ← hcs] at hzs
          gi_wp2
          go_roundw
          case rel => exact ⟨k + 1, by omega, by simp, ⟨zs, hzs, hJi⟩, hW⟩
          case measure => simp [RowKit.intOf]; omega
    · obtain rfl : k = ss.length := by omega
      rw [cameT_all] at hys
      gi_wp2
      go_end0
      exact ⟨⟨_, rfl⟩, .inl ⟨ys, hys, hJs⟩⟩
theorem contents2_stops (F : Fence) (n : Nat) (hf : F.fn 117) (hro : F.round = none) (hn : 1 ≤ n) (Bs : Nat) (x : Option Addr) (xc : Nat) (ss : List St) (w0 : World) (hS : SReads w0 (.slice x ss.length xc) ss) (hss : ss.length ≤ 140737488351232)
    (w : World) (hBs : Bs < w.heap.size) (hB : Below w0.heap.size w0 w) (hc : w.cell? ⟨Bs, 1, none⟩ = some (.slice x ss.length xc)) :
    SeqStopsK F n Tryz.prog 117 #[.pointer (some ⟨Bs, 0, none⟩)] (fun t : {t : ByteArray // t ∈ allT ss} => #[.string t.1]) (Below w0.heap.size) (fun ys => ys.map (·.1) = allT ss) (fun pre => pre.map (·.1) <+: allT ss) (allT ss).length w := fun l J Jx W hW hJ hJx hY h0 => by
  have hc' := (hW.cell (p := ⟨Bs, 1, none⟩) hBs).trans hc
  exact contents2_in F n hf hro hn l Bs W.heap.size x xc ss w0 hS hss J Jx hY W hJ (hB.trans (hW.mono hB.size)) hc' h0
set_option maxRecDepth 100000 in
set_option maxHeartbeats 4000000 in
theorem checksum_any (q : Int) (v : Value) (l : List St) (w : World) (hl : SReads w v l) (hn : l.length ≤ 140737488351232) :
    Calls Tryz.prog 84 #[.agg #[.int .i64 q, v]] w (Tells w (.int .i64 (sumT (allT l) : Nat))) := by
  obtain ⟨x, xc, rfl, gl⟩ := id hl
  have hz : ∀ t ∈ allT l, t.size ≤ maxLen := fun t ht => by
    obtain ⟨s, hs, hts⟩ := List.mem_flatMap.1 ht
    obtain ⟨i, hi, rfl⟩ := List.getElem_of_mem hs
    obtain ⟨_, _, _, _, K⟩ := gl i hi
    have := K.z t hts
    unfold maxLen; omega
  refine callsIn_wide.1 (callsIn_of_wp_marks (n := 6) Tryz.func84 rfl trivial ?_ rfl)
  simp only [Tryz.ntmps84, List.size_toArray, List.length_cons, List.length_nil, Nat.reduceAdd, Nat.reduceSub, Array.replicate_succ, Array.replicate_zero, List.push_toArray, List.append_toArray, List.nil_append, List.cons_append]
  gi_wp2_with (fail)
  refine ⟨trivial, (callsIn_wide.2 (begin_any _)).mono ?_⟩
  rintro e w' ⟨rfl, rfl⟩
  obtain ⟨ha, hb, hB0, hs⟩ := two_boxes w #[.int .i64 q, .slice x l.length xc] #[.int .u32 4294967295] 30 106 _ rfl
  have a0 := ha 0
  have a1 := ha 1
  have b0 := hb 0
  have bf := frozen_of_row ((w.alloc (.cells #[.int .i64 q, .slice x l.length xc] 30)).alloc (.cells #[.int .u32 4294967295] 106)) (w.heap.size + 1) 0 _ _ (by have := heap_alloc_new (w.alloc (.cells #[.int .i64 q, .slice x l.length xc] 30)) (.cells #[.int .u32 4294967295] 106); simpa using this)
  clear ha hb
  simp only [List.getElem?_toArray, List.getElem?_cons_zero, List.getElem?_cons_succ] at a0 a1 b0
  gi_wp2_with (fail)
  refine ⟨trivial, (callsIn_wide.2 (contents_in q (.slice x l.length xc) _)).mono ?_⟩
  rintro e w3 ⟨rfl, hw3⟩
  obtain ⟨g, hg⟩ : ∃ g, w.heap.size = g := ⟨_, rfl⟩
  generalize (w.alloc (.cells #[.int .i64 q, .slice x l.length xc] 30)).alloc (.cells #[.int .u32 4294967295] 106) = w2 at *
  have B3 : Below w.heap.size w w3 := by rw [hw3]; exact hB0.alloc hB0.size _
  have s3 : w3.heap.size = w2.heap.size + 1 := by rw [hw3]; simp
  have cB : w3.cell? ⟨w2.heap.size, 1, none⟩ = some (.slice x l.length xc) := by rw [hw3, World.cell?_alloc_mark]; rfl
  have q0 : w3.cell? ⟨w.heap.size + 1, 0, none⟩ = some (.int .u32 4294967295) := by rw [hw3]; exact cell_alloc_l _ b0
  have qf : w3.frozen? ⟨w.heap.size + 1, 0, none⟩ = false := by rw [hw3]; exact frozen_alloc_l _ b0 bf
  rw [hg] at q0 qf
  rw [hg]
  replace hg := Lib.hid hg
  have hgw : w.heap.size ≤ g + 1 := by have := hg.out; omega
  have hws := B3.size
  clear hw3 a0 a1 b0 bf
  gi_wp2_with (fail)
  refine wpIn_rangeFunc_ownF rfl (by decide) (gf := 117) (lb := #[.pointer (some ⟨w2.heap.size, 0, none⟩)]) rfl trivial (enters_of Tryz.func117 (by kernel_rfl) rfl)
    (contents2_stops .wide (6 - 1) trivial rfl (by decide) w2.heap.size x xc l w hl hn w3 (by omega) B3 cB) belowK_t (belowK_b hws) (Below.refl _ _) (fun _ => rfl)
    (fun pre W => (W.cell? ⟨g + 1, 0, none⟩ = some (.int .u32 ((crcT (pre.map (·.1)) : Nat) : Int)) ∧ W.frozen? ⟨g + 1, 0, none⟩ = false) ∧ Below w.heap.size w W)
    (fun _ _ _ => False)
    (OwnFrom.and (Own.from (fun s A B row hs hg hr => ⟨cell_kept hs.1 hg hr, (frozen_kept hs.1 hg hr).trans hs.2⟩) _) (ownFrom_below (Nat.le_refl _) hws))
    (fun c _ _ _ _ h _ _ => h)
    ⟨⟨q0, qf⟩, B3⟩ ?a1 ?assign ?body ?done ?stop
  case assign =>
    intro l x W K hK
    gi_wp2
    exact hK
  case body =>
    rintro ll pre t W ⟨⟨hcr, hfr⟩, hB⟩ _
    have hlt := crcT_lt (pre.map (·.1))
    have hsn : crcT ((pre ++ [t]).map (·.1)) = Crc.go (crcT (pre.map (·.1))) t.1.data.toList := by rw [List.map_append]; exact crcT_snoc _ _
    have cG := go_any ((crcT (pre.map (·.1)) : Nat) : Int) t.1 W (by omega) (by omega) (hz _ t.2)
    rw [Int.toNat_natCast] at cG
    generalize crcT (pre.map (·.1)) = c at *
    gi_wp2_with (fail)
    refine ⟨trivial, (CallsIn.inRound ll (callsIn_wide.2 cG)).mono ?_⟩
    rintro e w' ⟨rfl, rfl⟩
    gi_wp2_with (fail)
    exact ⟨KeepsOthers.setCell _ _ _, (Below.refl _ W).setCell (p := ⟨g + 1, 0, none⟩) hgw _, ⟨by rw [hsn]; exact World.cell?_setCell_same' _ _ _ (by rw [hcr]; rfl), by rw [World.frozen?_setCell]; exact hfr⟩, hB.setCell (p := ⟨g + 1, 0, none⟩) hgw _⟩
  case done =>
    rintro D ys W hD hys ⟨⟨hcr, hfr⟩, hB⟩ hK
    replace hys : ys.map (·.1) = allT l := hys
    rw [hys] at hcr
    have hlt := crcT_lt (allT l)
    have cE := end_any ((crcT (allT l) : Nat) : Int) W (by omega) (by omega)
    rw [Int.toNat_natCast] at cE
    have hsl := sumT_lt (allT l)
    have hse : Crc.fin (crcT (allT l)) = sumT (allT l) := rfl
    rw [hse] at cE
    generalize crcT (allT l) = c at *
    generalize sumT (allT l) = sm at *
    clear hse
    gi_wp2_with (fail)
    refine ⟨trivial, (callsIn_wide.2 cE).mono ?_⟩
    rintro e w' ⟨rfl, rfl⟩
    have v1 : IntKind.i64.wrap (sm : Int) = (sm : Int) := IntWalk.i64_in _ (by omega)
    gi_wp2_with (fail)
    refine ⟨by simp, .inl ⟨_, _, rfl, run_takeDeferred hK, ?_⟩⟩
    refine ⟨.int .i64 (sm : Int), ?_, rfl, hB.trans (belowK_b (w := w) (Nat.le_refl _) W D _ _ (by omega) hK rfl rfl)⟩
    simp [results, Tryz.f84, go_sem]
  case stop =>
    rintro D c pre W hD hpre h
    exact h.elim
end
section
open Go.RowKit
set_option linter.unusedVariables false
set_option linter.unusedSimpArgs false

open Rc
theorem number11_any (n width : Int) (w : World) : Calls Tryz.prog 83 #[.int .i64 n, .int .i64 width] w (Tells w (.string (numL n width))) := by
  have hn := fun W => num_any n width W
  generalize numL n width = s at *
  generalize numE n width = m at *
  go_enter Tryz.func83, Tryz.ntmps83
  go_wp2_with (fail)
  refine (hn _).mono ?_
  rintro e w1 ⟨rfl, hb⟩
  go_wp2_with (fail)
  go_ret
  exact ⟨rfl, hb⟩
theorem rnumber11_any (n width : Int) (w : World) : Calls Tryz.prog 65 #[.int .i64 n, .int .i64 width] w (Tells w (.string (numL n width))) := by
  have hn := fun W => rnum_any n width W
  generalize numL n width = s at *
  generalize numE n width = m at *
  go_enter Tryz.func65, Tryz.ntmps65
  go_wp2_with (fail)
  refine (hn _).mono ?_
  rintro e w1 ⟨rfl, hb⟩
  go_wp2_with (fail)
  go_ret
  exact ⟨rfl, hb⟩
set_option maxRecDepth 100000 in
set_option maxHeartbeats 4000000 in
theorem rsum11_any (v : Value) (d : List ByteArray) (w : World) (hd : Reads w v (d.map .string)) (hn : d.length ≤ 140737488355328) (hz : ∀ t ∈ d, t.size ≤ 3000) :
    Calls Tryz.prog 66 #[v] w (Tells w (.int .i64 (sumT d : Nat))) := by
  obtain ⟨a0, ca, rfl, ga⟩ := hd.items
  clear hd
  go_enter Tryz.func66, Tryz.ntmps66
  go_wp2_with (fail)
  refine (rbegin_any _).mono ?_
  rintro e w' ⟨rfl, rfl⟩
  go_wp2_with (fail)
  go_loopw [3, 4] (fun c i wr => ∃ k : Nat, k ≤ d.length ∧ i = .int .i64 (k : Int) ∧ c = .int .u32 ((crcT (d.take k) : Nat) : Int) ∧ Below w.heap.size w wr) (fun _ i _ => d.length - (RowKit.intOf i).toNat)
  case atStart => exact ⟨0, Nat.zero_le _, rfl, rfl, Below.refl _ _⟩
  case round =>
    obtain ⟨k, hk, rfl, rfl, hB⟩ := hrel
    rename World => wr
    have hc := crcT_lt (d.take k)
    by_cases hlt : k < d.length
    · have y1 : (k : Int) < (d.length : Int) := by omega
      obtain ⟨p1, o1, rfl, l1, c1⟩ := ga k hlt
      have d1 := (hB.cell (p := ⟨p1, o1 + k, none⟩) l1).trans c1
      have hsn : crcT (d.take (k + 1)) = Crc.go (crcT (d.take k)) d[k].data.toList := by rw [List.take_succ_eq_append_getElem hlt, crcT_snoc]
      have cG := rgo_any ((crcT (d.take k) : Nat) : Int) d[k] wr (by omega) (by omega) (hz _ (List.getElem_mem hlt))
      rw [Int.toNat_natCast, ← hsn] at cG
      clear c1 hsn
      generalize d[k] = t at *
      generalize crcT (d.take k) = c at *
      obtain ⟨c2, hc2⟩ : ∃ c2, crcT (d.take (k + 1)) = c2 := ⟨_, rfl⟩
      rw [hc2] at cG
      replace hc2 := Lib.hid hc2
      go_wp2_with (fail)
      refine cG.mono ?_
      rintro e w2 ⟨rfl, b2⟩
      have hB3 := below_c hB b2
      go_wp2_with (fail)
      go_roundw
      case rel => exact ⟨k + 1, by omega, by go_num, by rw [hc2.out], hB3⟩
      case measure => simp [RowKit.intOf]; omega
    · obtain rfl : k = d.length := by omega
      rw [List.take_length] at hc ⊢
      have y1 : ¬ ((d.length : Int) < (d.length : Int)) := by omega
      have cE := rend_any ((crcT d : Nat) : Int) wr (by omega) (by omega)
      rw [Int.toNat_natCast] at cE
      have hsl := sumT_lt d
      have hse : Crc.fin (crcT d) = sumT d := rfl
      rw [hse] at cE
      generalize crcT d = c at *
      generalize sumT d = sm at *
      clear hse
      have v1 : IntKind.i64.wrap (sm : Int) = (sm : Int) := IntWalk.i64_in _ (by omega)
      go_wp2_with (fail)
      refine cE.mono ?_
      rintro e w2 ⟨rfl, rfl⟩
      go_wp2_with (fail)
      go_ret
      exact ⟨rfl, hB⟩
end
end Go.Proofs.YtfadglcpapiklaaGreatDoor
end
section
namespace Go.Proofs.YtfadglcpapiklaaGreatDoor
section
open Go Go.RowKit Go.Shelf
attribute [local go_sem] Oper.semAt_some
set_option linter.unusedVariables false
set_option linter.unusedSimpArgs false

open Rc
theorem Tryz.infoT : (Tryz.prog.info? 9).map (fun i => (i.zero, i.size, i.bytes)) = some (some (.string ⟨#[]⟩), 1, 16) := by kernel_rfl
def GivesT (w : World) (d : List ByteArray) (e : Ending) (w' : World) : Prop := ∃ v, e = .returned v ∧ Own w' w.heap.size 9 v (d.map .string) ∧ Below w.heap.size w w'
set_option maxRecDepth 100000 in
set_option maxHeartbeats 4000000 in
theorem appendSeq_any (Bs : Nat) (x : Option Addr) (xc : Nat) (l : List St) (w0 w : World) (hS : SReads w0 (.slice x l.length xc) l) (hn : l.length ≤ 140737488351232) (hB : Below w0.heap.size w0 w) (hBs : Bs < w.heap.size) (hc : w.cell? ⟨Bs, 1, none⟩ = some (.slice x l.length xc)) (hlen : (allT l).length ≤ 1000) :
    Calls Tryz.prog 116 #[.slice none 0 0, .func (.func 117) #[] #[.pointer (some ⟨Bs, 0, none⟩)]] w (GivesT w (allT l)) := by
  obtain ⟨i0, hi, hz0, hz1, hz2⟩ := info_parts Tryz.infoT
  refine callsIn_wide.1 (callsIn_of_wp_marks (n := 6) Tryz.func116 rfl trivial ?_ rfl)
  simp only [Tryz.ntmps116, List.size_toArray, List.length_cons, List.length_nil, Nat.reduceAdd, Nat.reduceSub, Array.replicate_succ, Array.replicate_zero, List.push_toArray, List.append_toArray, List.nil_append, List.cons_append]
  gi_wp2
  have bO := Boxed.new w 54 (.slice none 0 0)
  have hB0 : Below w.heap.size w (w.alloc (.cells #[.slice none 0 0] 54)) := (Below.refl _ w).alloc (Nat.le_refl _) _
  have hw0 := hB.size
  have cB := cell_alloc_l (.cells #[.slice none 0 0] 54) hc
  refine wpIn_rangeFunc_ownG rfl (by decide) (gf := 117) (lb := #[.pointer (some ⟨Bs, 0, none⟩)]) rfl trivial (enters_of Tryz.func117 (by kernel_rfl) rfl)
    (contents_stops .wide (6 - 1) trivial rfl (by decide) Bs x xc l w0 hS hn (w.alloc (.cells #[.slice none 0 0] 54)) (by simp; omega) (hB.trans (hB0.mono hw0)) cB) belowK_t (belowK_b (by simp; omega)) (Below.refl _ _) (fun _ => rfl)
    (fun pre W => (∃ v, Boxed W w.heap.size 54 v ∧ W.ownsRow w.heap.size 9 1 v pre.length (pre.map Value.string) ∧ True) ∧ Below w.heap.size w W)
    (fun _ _ _ => False)
    (OwnFrom.and (Own.from (holdsRow_own w.heap.size w.heap.size 54 9 1 (fun pre : List ByteArray => pre.length) (fun pre => pre.map Value.string) (fun pre v => True)) _) (ownFrom_below (Nat.le_refl _) (by simp)))
    (fun _ _ _ _ _ hs _ _ => hs)
    ⟨⟨_, bO, World.ownsRow_nil _ _ _ _, trivial⟩, hB0⟩ ?a1 ?assign ?body ?done ?stop
  case assign =>
    intro l x W K hK
    gi_wp2
    exact hK
  case body =>
    rintro ll pre t W ⟨⟨v, hv, hrow, _⟩, hB⟩ hlt
    have hc := hv.cell
    have hpl : pre.length < 1000 := by omega
    gi_wp2_with (gi_at_builtin; refine wpListIn_append_own _ rfl _ _ 54 rfl w.heap.size 9 i0 (.string ⟨#[]⟩) 1 16 Tryz.underlying54 hi hz0 hz1 hz2 rfl (by decide) _ _ _ rfl (hrow.alloc _) ⟨W.heap.size, 0, none⟩ 1 1 [.string t] rfl rfl (cell_one_new _ _ _) (by simp [Value.oneCell']) (by unfold maxLen; omega) (by omega) (by have := hB.size; simp; omega) ?_; intro v' w1 hown' hgrow _; obtain ⟨g', cap', rfl⟩ := ownsRow_succ hown'; obtain ⟨hv1, hv2, hr2, hk2, hb2⟩ := hv.appended (by decide) hrow hB.size (Nat.le_refl _) hown' hgrow; have hc1 := hv1.cell; have hf1 := hv1.frozen)
    exact ⟨hk2.from _, hb2.mono hw0, ⟨_, hv2, by simpa using hr2, trivial⟩, hB.trans hb2⟩
  case done =>
    rintro D ys W hD rfl ⟨⟨v, hv, hrow, _⟩, hB⟩ hK
    have hc := hv.cell
    gi_wp2
    refine ⟨by simp, .inl ⟨_, _, rfl, run_takeDeferred hK, ?_⟩⟩
    exact ⟨_, results_tmp rfl _ _ _, v, rfl, ⟨by rw [List.length_map]; exact ownsRow_putObj hrow _ hK rfl⟩, hB.trans (belowK_b (w := w) (Nat.le_refl _) W D _ _ (by simp at hD; omega) hK rfl rfl)⟩
  case stop =>
    rintro D c pre W _ _ h _
    exact h.elim
theorem collect_any (Bs : Nat) (x : Option Addr) (xc : Nat) (l : List St) (w0 w : World) (hS : SReads w0 (.slice x l.length xc) l) (hn : l.length ≤ 140737488351232) (hB : Below w0.heap.size w0 w) (hBs : Bs < w.heap.size) (hc : w.cell? ⟨Bs, 1, none⟩ = some (.slice x l.length xc)) (hlen : (allT l).length ≤ 1000) :
    Calls Tryz.prog 85 #[.func (.func 117) #[] #[.pointer (some ⟨Bs, 0, none⟩)]] w (GivesT w (allT l)) := by
  have hA := appendSeq_any Bs x xc l w0 w hS hn hB hBs hc hlen
  go_enter Tryz.func85, Tryz.ntmps85
  go_wp2_with (fail)
  refine hA.mono ?_
  rintro e w' ⟨v, rfl, ho, hb⟩
  go_wp2_with (fail)
  go_ret
  exact ⟨v, rfl, ho, hb⟩
end
section
open Go.RowKit
set_option linter.unusedVariables false
set_option linter.unusedSimpArgs false

open Rc
theorem numL_size (n : Int) (W : Nat) (h : W ≤ 7) : (numL n (W : Int)).size ≤ 7 := by
  rw [numL]; split
  · rw [lineOf_size, Pk.be_length, Int.toNat_natCast]; exact h
  · exact Nat.zero_le _
/-- The head of k stripes, without the sum. -/
def headTo (q : Int) (l : List St) (k : Nat) : ByteArray := (l.take k).foldl (fun a s => a ++ numL s.n 1) (⟨#[74, 82, 78, 49]⟩ ++ numL q 6 ++ numL (l.length : Int) 1)
theorem headTo_succ (q : Int) (l : List St) {k : Nat} (h : k < l.length) : headTo q l (k + 1) = headTo q l k ++ numL l[k].n 1 := by
  unfold headTo; rw [List.take_succ_eq_append_getElem h, List.foldl_append]; rfl
theorem headTo_size (q : Int) (l : List St) : ∀ {k : Nat}, k ≤ l.length → (headTo q l k).size ≤ 18 + 7 * k
  | 0, _ => by
    have h1 := numL_size q 6 (by decide)
    have h2 := numL_size (l.length : Int) 1 (by decide)
    have e : headTo q l 0 = ⟨#[74, 82, 78, 49]⟩ ++ numL q 6 ++ numL (l.length : Int) 1 := rfl
    rw [e, ByteArray.size_append, ByteArray.size_append]
    have e4 : (⟨#[74, 82, 78, 49]⟩ : ByteArray).size = 4 := rfl
    have h1' : (numL q 6).size ≤ 7 := h1
    have h2' : (numL (l.length : Int) 1).size ≤ 7 := h2
    omega
  | k + 1, h => by
    have ih := headTo_size q l (k := k) (by omega)
    have h2 : (numL l[k].n 1).size ≤ 7 := numL_size l[k].n 1 (by decide)
    rw [headTo_succ q l (by omega), ByteArray.size_append]
    omega
def layS (q : Int) (l : List St) : ByteArray := headTo q l l.length ++ numL ((sumT (allT l) : Nat) : Int) 4
structure RightF (K M B q : Int) (l : List St) : Prop where
  k : 1 ≤ K ∧ K ≤ 4
  n : 1 ≤ l.length ∧ l.length ≤ 16
  d : ∀ s ∈ l, (s.d.length : Int) = K
  z : ∀ s ∈ l, ∀ t ∈ s.d, t.size = 120
theorem right_f {K M B q : Int} {l : List St} (h : rightB K M B q l = true) : RightF K M B q l := by
  unfold rightB ordB at h
  simp only [Bool.and_eq_true, decide_eq_true_eq, List.all_eq_true] at h
  obtain ⟨⟨hg, _, hn, _⟩, hs⟩ := h
  have hk : 1 ≤ K ∧ K ≤ 4 := ⟨(gR_true hg).1, (gR_true hg).2.1⟩
  refine ⟨hk, hn, fun s hm => ?_, fun s hm t ht => ?_⟩
  · have := hs s hm
    unfold stB at this
    simp only [Bool.and_eq_true, beq_iff_eq] at this
    exact this.1
  · have := hs s hm
    unfold stB txtB at this
    simp only [Bool.and_eq_true, beq_iff_eq, List.all_eq_true] at this
    have := this.2 t ht
    omega
theorem cameT_len {K M B q : Int} {l : List St} (h : RightF K M B q l) : ∀ {k : Nat}, k ≤ l.length → (cameT l k).length ≤ 4 * k
  | 0, _ => by simp [cameT_zero]
  | k + 1, hk => by
    have ih := cameT_len h (k := k) (by omega)
    have := h.d _ (List.getElem_mem (show k < l.length by omega))
    have := h.k
    rw [cameT_succ l (by omega), List.length_append]
    omega
def GivesL11 (w : World) (K M B q : Int) (l : List St) (e : Ending) (w' : World) : Prop :=
  ∃ v, e = .returned (.tuple #[.string (if rightB K M B q l then layS q l else ⟨#[]⟩), v, .int .i64 (if rightB K M B q l then 0 else 110)]) ∧ Own w' w.heap.size 9 v ((if rightB K M B q l then allT l else []).map .string) ∧ Below w.heap.size w w'
set_option maxRecDepth 100000 in
set_option maxHeartbeats 4000000 in
theorem rlay_any (K M B q : Int) (v : Value) (l : List St) (w : World) (hl : SReads w v l) (hn : l.length ≤ 140737488351232) :
    Calls Tryz.prog 26 #[.agg #[.int .i64 K, .int .i64 M, .int .i64 B], .agg #[.int .i64 q, v]] w (GivesL11 w K M B q l) := by
  obtain ⟨ha, hb, hB0, hs⟩ := two_boxes w #[.int .i64 K, .int .i64 M, .int .i64 B] #[.int .i64 q, v] 23 30 _ rfl
  have cR := rright11_any K M B q v l _ (hl.below hB0) (by omega)
  have a0 := ha 0
  have a1 := ha 1
  have a2 := ha 2
  have b0 := hb 0
  have b1 := hb 1
  obtain ⟨x, xc, rfl, gl⟩ := hl
  clear ha hb
  simp only [List.getElem?_toArray, List.getElem?_cons_zero, List.getElem?_cons_succ] at a0 a1 a2 b0 b1
  go_enter Tryz.func26, Tryz.ntmps26
  go_wp2_with (fail)
  refine cR.mono ?_
  rintro e w1 ⟨rfl, bw⟩
  have B1 := below_c hB0 bw
  replace b0 := (bw.cell (p := ⟨w.heap.size + 1, 0, none⟩) hs).trans b0
  replace b1 := (bw.cell (p := ⟨w.heap.size + 1, 1, none⟩) hs).trans b1
  replace hs := Nat.lt_of_lt_of_le hs bw.size
  clear bw hB0 cR a0 a1 a2
  obtain ⟨g, hg⟩ : ∃ g, w.heap.size = g := ⟨_, rfl⟩
  rw [hg] at b0 b1 hs ⊢
  replace hg := Lib.hid hg
  unfold GivesL11
  cases hR : rightB K M B q l with
  | false =>
    go_wp2_with (fail)
    refine bodyPost_ret (results_tmp3 rfl _ _ _) rfl ?_
    exact ⟨_, by rw [hR]; rfl, by rw [hR]; exact Own.nil _ _ _, B1⟩
  | true =>
    have hf := right_f hR
    have hfn := hf.n
    simp only [if_true]
    have cN : ∀ (n k : Int) (W : World), Calls Tryz.prog 65 #[.int .i64 n, .int .i64 k] W fun e w' => e = .returned (.string (numL n k)) ∧ Below W.heap.size W w' := fun n k W => rnumber11_any n k W
    have cM := fun n W => rnumber11_any n 1 W
    have h0 : Hid (headTo q l 0 = ⟨#[74, 82, 78, 49]⟩ ++ numL q 6 ++ numL (l.length : Int) 1) := Lib.hid rfl
    have z0 := headTo_size q l (k := 0) (by omega)
    rw [h0.out] at z0
    have n6 : (numL q 6).size ≤ 7 := numL_size q 6 (by decide)
    have n1 : (numL (l.length : Int) 1).size ≤ 7 := numL_size (l.length : Int) 1 (by decide)
    have za : (⟨#[74, 82, 78, 49]⟩ : ByteArray).size + (numL q 6).size ≤ 300 := by show 4 + _ ≤ 300; omega
    have za' : 4 + (numL q 6).size ≤ 300 := by omega
    have z1 : ((⟨#[74, 82, 78, 49]⟩ : ByteArray) ++ numL q 6).size ≤ 300 := by rw [ByteArray.size_append]; exact za
    have zb : ((⟨#[74, 82, 78, 49]⟩ : ByteArray) ++ numL q 6).size + (numL (l.length : Int) 1).size ≤ 300 := by rw [ByteArray.size_append]; show 4 + _ + _ ≤ 300; omega
    have z0' : ((⟨#[74, 82, 78, 49]⟩ : ByteArray) ++ numL q 6 ++ numL (l.length : Int) 1).size ≤ 300 := by rw [ByteArray.size_append]; exact zb
    go_wp2_with (fail)
    refine wp_region_cls (Below w1.heap.size w1) (by kernel_rfl) (by kernel_rfl) (Below.refl _ _).drew ?_
    intro Z f hne hD hE
    have r0 : ∀ zz, (f zz).cell? ⟨g + 1, 0, none⟩ = some (.int .i64 q) := fun zz => (clsCell hD zz _ _ hs).trans b0
    have r1 : ∀ zz, (f zz).cell? ⟨g + 1, 1, none⟩ = some (.slice x l.length xc) := fun zz => (clsCell hD zz _ _ hs).trans b1
    iterate 10 (go_big_quiet_step (first | (go_at_call 65; with_reducible exact toQB hD hE _ (cN _ _ _))))
    refine wpQuiet_nil ?_
    intro _ hw'
    obtain ⟨zq, hw''⟩ := hw'
    subst hw''
    have B2 := hD zq
    have c1 := r1 zq
    have hs2 := Nat.lt_of_lt_of_le hs B2.size
    rw [← h0.out]
    clear hE r0 r1 hD z0 z1 za za' zb z0' n6 n1 b0 cN
    generalize f zq = w2 at *
    obtain ⟨i0, hi, hz0, hz1, hzb⟩ := info_parts Tryz.infoT
    go_wp2_with (fail)
    go_loopw [8, 9, 10] (fun a b i W => ∃ k : Nat, k ≤ l.length ∧ i = .int .i64 (k : Int) ∧ a = .string (headTo q l k) ∧ Own W w2.heap.size 9 b ((cameT l k).map .string) ∧ Below w2.heap.size w2 W) (fun _ _ i _ => l.length - (RowKit.intOf i).toNat)
    case atStart => exact ⟨0, Nat.zero_le _, rfl, rfl, Own.nil _ _ _, Below.refl _ _⟩
    case round =>
      obtain ⟨k, hk, rfl, rfl, hO, hB⟩ := hrel
      rename World => W
      have d1 := (hB.cell (p := ⟨g + 1, 1, none⟩) hs2).trans c1
      have hsz := headTo_size q l hk
      by_cases hlt : k < l.length
      · have y1 : (k : Int) < (l.length : Int) := by omega
        have hsz2 := headTo_size q l (k := k + 1) hlt
        rw [headTo_succ q l hlt] at hsz2
        have hhd := Lib.hid (headTo_succ q l hlt)
        have hcm := Lib.hid (cameT_succ l hlt)
        have hcl := cameT_len hf (k := k) hk
        have hd4 := hf.d _ (List.getElem_mem hlt)
        have hk4 := hf.k
        obtain ⟨p1, o1, rfl, A1, K1⟩ := gl k hlt
        have Bw := below_c (below_c B1 B2) hB
        have L1 := A1.below Bw A1.lt
        have K2 := K1.below Bw
        clear A1 K1
        generalize l[k] = s at *
        obtain ⟨n, d, u⟩ := s
        obtain ⟨ua, uc, ev⟩ := K2.r.isSlice
        rw [List.length_map] at ev
        simp only at ev
        subst ev
        have ⟨f0, f1, fl⟩ := L1
        simp only at f0 f1 hsz2 hhd hcm hd4
        have z2 : (numL n 1).size ≤ 7 := numL_size n 1 (by decide)
        have z3 : (headTo q l k).size + (numL n 1).size ≤ 300 := by omega
        have z4 : (headTo q l k ++ numL n 1).size ≤ 300 := by omega
        have cK := cM n W
        go_wp2_with (fail)
        refine cK.mono ?_
        rintro e w5 ⟨rfl, b5⟩
        go_upto_region 10 with (fail)
        rw [← hhd.out]
        have O5 := hO.after b5
        have B5 := hB.trans (b5.mono hB.size)
        have d2 := (b5.cell (p := ⟨g + 1, 1, none⟩) (by show g + 1 < W.heap.size; have := hB.size; omega)).trans d1
        have g1 := (b5.cell (p := ⟨p1, o1 + k * 2 + 1, none⟩) fl).trans f1
        have K5 := K2.below b5
        obtain ⟨v', w6, hap, O6, b6, _⟩ := Own.pushAll (P := Tryz.prog) (T := 54) Tryz.underlying54 hi hz0 hz1 hzb rfl O5 K5.r (fun u hu => by obtain ⟨b, _, rfl⟩ := List.mem_map.1 hu; rfl) B5.size (by simp only [List.length_map]; omega) (by simp only [List.length_map]; omega)
        rw [← List.map_append, ← hcm.out] at O6
        have B6 := B5.trans b6
        clear f0 f1 d1 hO O5 B5 K2 L1 fl cK z2 z3 z4 hsz2 hcl hd4 hk4 Bw
        obtain ⟨hh, hhe⟩ : ∃ h, headTo q l (k + 1) = h := ⟨_, rfl⟩
        rw [hhe]
        replace hhe := Lib.hid hhe
        go_wp2_with (at_builtin; refine wpList_append_run2 hap _ _ rfl rfl rfl rfl rfl ?_)
        go_roundw
        case rel => exact ⟨k + 1, by omega, by go_num, by rw [hhe.out], O6, B6⟩
        case measure => simp [RowKit.intOf]; omega
      · obtain rfl : k = l.length := by omega
        have y1 : ¬ ((l.length : Int) < (l.length : Int)) := by omega
        rw [cameT_all] at hO
        have Bw := below_c (below_c B1 B2) hB
        have hcl := cameT_len hf (k := l.length) (Nat.le_refl _)
        rw [cameT_all] at hcl
        have cS := rsum11_any _ (allT l) W hO.reads (by omega) (fun t ht => by
          obtain ⟨s, hs, hts⟩ := List.mem_flatMap.1 ht
          have := hf.z s hs t hts; omega)
        have cF := fun W => rnumber11_any ((sumT (allT l) : Nat) : Int) 4 W
        have z2 : (numL ((sumT (allT l) : Nat) : Int) 4).size ≤ 7 := numL_size _ 4 (by decide)
        have z3 : (headTo q l l.length).size + (numL ((sumT (allT l) : Nat) : Int) 4).size ≤ 300 := by omega
        have z4 : (headTo q l l.length ++ numL ((sumT (allT l) : Nat) : Int) 4).size ≤ 300 := by rw [ByteArray.size_append]; omega
        go_wp2_with (fail)
        refine cS.mono ?_
        rintro e w5 ⟨rfl, b5⟩
        go_wp2_with (fail)
        refine (cF _).mono ?_
        rintro e w6 ⟨rfl, b6⟩
        go_wp2_with (fail)
        refine bodyPost_ret (results_tmp3 rfl _ _ _) rfl ?_
        exact ⟨_, by rw [hR]; rfl, by rw [hR]; exact ((hO.after b5).after b6).mono (by have := B1.size; have := B2.size; omega), below_c (below_c Bw b5) b6⟩
end
section
open Go.RowKit
set_option linter.unusedVariables false
set_option linter.unusedSimpArgs false

open Rc
/-- A record's box lies there. -/
def Bxd (U : World) (Bs : Nat) (x : Option Addr) (n xc : Nat) : Prop := U.cell? ⟨Bs, 1, none⟩ = some (.slice x n xc) ∧ Bs < U.heap.size
theorem Bxd.go {U U' : World} {Bs : Nat} {x : Option Addr} {n xc : Nat} (h : Bxd U Bs x n xc) (hb : Below U.heap.size U U') : Bxd U' Bs x n xc := ⟨(hb.cell (p := ⟨Bs, 1, none⟩) h.2).trans h.1, Nat.lt_of_lt_of_le h.2 hb.size⟩
set_option maxRecDepth 100000 in
set_option maxHeartbeats 4000000 in
theorem lay_any (K M B q : Int) (v : Value) (l : List St) (w : World) (hl : SReads w v l) (hn : l.length ≤ 140737488351232) :
    Calls Tryz.prog 44 #[.agg #[.int .i64 K, .int .i64 M, .int .i64 B], .agg #[.int .i64 q, v]] w (GivesL11 w K M B q l) := by
  obtain ⟨ha, hb, hB0, hs⟩ := two_boxes w #[.int .i64 K, .int .i64 M, .int .i64 B] #[.int .i64 q, v] 23 30 _ rfl
  have cR := right11_any K M B q v l _ (hl.below hB0) hn
  have a0 := ha 0
  have a1 := ha 1
  have a2 := ha 2
  have b0 := hb 0
  have b1 := hb 1
  obtain ⟨x, xc, rfl, gl⟩ := id hl
  clear ha hb
  simp only [List.getElem?_toArray, List.getElem?_cons_zero, List.getElem?_cons_succ] at a0 a1 a2 b0 b1
  go_enter Tryz.func44, Tryz.ntmps44
  go_wp2_with (fail)
  refine cR.mono ?_
  rintro e w1 ⟨rfl, bw⟩
  have B1 := below_c hB0 bw
  replace b0 := (bw.cell (p := ⟨w.heap.size + 1, 0, none⟩) hs).trans b0
  replace b1 := (bw.cell (p := ⟨w.heap.size + 1, 1, none⟩) hs).trans b1
  replace hs := Nat.lt_of_lt_of_le hs bw.size
  clear bw hB0 cR a0 a1 a2
  obtain ⟨g, hg⟩ : ∃ g, w.heap.size = g := ⟨_, rfl⟩
  rw [hg] at b0 b1 hs ⊢
  replace hg := Lib.hid hg
  unfold GivesL11
  cases hR : rightB K M B q l with
  | false =>
    go_wp2_with (fail)
    refine bodyPost_ret (results_tmp3 rfl _ _ _) rfl ?_
    exact ⟨_, by rw [hR]; rfl, by rw [hR]; exact Own.nil _ _ _, B1⟩
  | true =>
    have hf := right_f hR
    have hfn := hf.n
    simp only [if_true]
    have cN : ∀ (n k : Int) (W : World), Calls Tryz.prog 83 #[.int .i64 n, .int .i64 k] W fun e w' => e = .returned (.string (numL n k)) ∧ Below W.heap.size W w' := fun n k W => number11_any n k W
    have cM := fun n W => number11_any n 1 W
    have h0 : Hid (headTo q l 0 = ⟨#[74, 82, 78, 49]⟩ ++ numL q 6 ++ numL (l.length : Int) 1) := Lib.hid rfl
    have z0 := headTo_size q l (k := 0) (by omega)
    rw [h0.out] at z0
    have n6 : (numL q 6).size ≤ 7 := numL_size q 6 (by decide)
    have n1 : (numL (l.length : Int) 1).size ≤ 7 := numL_size (l.length : Int) 1 (by decide)
    have za : (⟨#[74, 82, 78, 49]⟩ : ByteArray).size + (numL q 6).size ≤ 300 := by show 4 + _ ≤ 300; omega
    have za' : 4 + (numL q 6).size ≤ 300 := by omega
    have z1 : ((⟨#[74, 82, 78, 49]⟩ : ByteArray) ++ numL q 6).size ≤ 300 := by rw [ByteArray.size_append]; exact za
    have zb : ((⟨#[74, 82, 78, 49]⟩ : ByteArray) ++ numL q 6).size + (numL (l.length : Int) 1).size ≤ 300 := by rw [ByteArray.size_append]; show 4 + _ + _ ≤ 300; omega
    have z0' : ((⟨#[74, 82, 78, 49]⟩ : ByteArray) ++ numL q 6 ++ numL (l.length : Int) 1).size ≤ 300 := by rw [ByteArray.size_append]; exact zb
    go_wp2_with (fail)
    refine wp_region_cls (Below w1.heap.size w1) (by kernel_rfl) (by kernel_rfl) (Below.refl _ _).drew ?_
    intro Z f hne hD hE
    have r0 : ∀ zz, (f zz).cell? ⟨g + 1, 0, none⟩ = some (.int .i64 q) := fun zz => (clsCell hD zz _ _ hs).trans b0
    have r1 : ∀ zz, (f zz).cell? ⟨g + 1, 1, none⟩ = some (.slice x l.length xc) := fun zz => (clsCell hD zz _ _ hs).trans b1
    iterate 10 (go_big_quiet_step (first | (go_at_call 83; with_reducible exact toQB hD hE _ (cN _ _ _))))
    refine wpQuiet_nil ?_
    intro _ hw'
    obtain ⟨zq, hw''⟩ := hw'
    subst hw''
    have B2 := hD zq
    have c1 := r1 zq
    have hs2 := Nat.lt_of_lt_of_le hs B2.size
    rw [← h0.out]
    clear hE r0 r1 hD z0 z1 za za' zb z0' n6 n1 cN
    generalize f zq = w2 at *
    have d0 := (B2.cell (p := ⟨g + 1, 0, none⟩) hs).trans b0
    clear b0
    go_wp2_with (fail)
    go_loopw [7, 26] (fun a i W => ∃ k : Nat, k ≤ l.length ∧ i = .int .i64 (k : Int) ∧ a = .string (headTo q l k) ∧ Below w2.heap.size w2 W) (fun _ i _ => l.length - (RowKit.intOf i).toNat)
    case atStart => exact ⟨0, Nat.zero_le _, rfl, rfl, Below.refl _ _⟩
    case round =>
      obtain ⟨k, hk, rfl, rfl, hB⟩ := hrel
      rename World => W
      have hsz := headTo_size q l hk
      by_cases hlt : k < l.length
      · have y1 : (k : Int) < (l.length : Int) := by omega
        have hsz2 := headTo_size q l (k := k + 1) hlt
        rw [headTo_succ q l hlt] at hsz2
        have hhd := Lib.hid (headTo_succ q l hlt)
        obtain ⟨p1, o1, rfl, A1, K1⟩ := gl k hlt
        have Bw := below_c (below_c B1 B2) hB
        have L1 := A1.below Bw A1.lt
        have K2 := K1.below Bw
        clear A1 K1
        generalize l[k] = s at *
        obtain ⟨n, d, u⟩ := s
        obtain ⟨ua, uc, ev⟩ := K2.r.isSlice
        rw [List.length_map] at ev
        simp only at ev
        subst ev
        have ⟨f0, f1, fl⟩ := L1
        simp only at f0 f1 hsz2 hhd
        have z2 : (numL n 1).size ≤ 7 := numL_size n 1 (by decide)
        have z3 : (headTo q l k).size + (numL n 1).size ≤ 300 := by omega
        have z4 : (headTo q l k ++ numL n 1).size ≤ 300 := by omega
        have bk := (Below.refl W.heap.size W).alloc (Nat.le_refl _) (.cells #[.int .i64 n, .slice ua d.length uc] 76)
        have cK := cM n (W.alloc (.cells #[.int .i64 n, .slice ua d.length uc] 76))
        have hBk := below_c hB bk
        clear K2
        go_wp2_with (fail)
        refine cK.mono ?_
        rintro e w5 ⟨rfl, b5⟩
        have B5 := below_c hBk b5
        clear f0 f1 fl L1 hBk bk cK Bw
        go_upto_region 8 with (fail)
        rw [← hhd.out]
        obtain ⟨hh, hhe⟩ : ∃ h, headTo q l (k + 1) = h := ⟨_, rfl⟩
        rw [hhe]
        replace hhe := Lib.hid hhe
        go_wp2_with (fail)
        go_roundw
        case rel => exact ⟨k + 1, by omega, by go_num, by rw [hhe.out], B5⟩
        case measure => simp [RowKit.intOf]; omega
      · obtain rfl : k = l.length := by omega
        have y1 : ¬ ((l.length : Int) < (l.length : Int)) := by omega
        have Bw := below_c (below_c B1 B2) hB
        have c2 := (hB.cell (p := ⟨g + 1, 1, none⟩) hs2).trans c1
        have c3 := (hB.cell (p := ⟨g + 1, 0, none⟩) hs2).trans d0
        have hcl := cameT_len hf (k := l.length) (Nat.le_refl _)
        rw [cameT_all] at hcl
        have z2 : (numL ((sumT (allT l) : Nat) : Int) 4).size ≤ 7 := numL_size _ 4 (by decide)
        have z3 : (headTo q l l.length).size + (numL ((sumT (allT l) : Nat) : Int) 4).size ≤ 300 := by omega
        have z4 : (headTo q l l.length ++ numL ((sumT (allT l) : Nat) : Int) 4).size ≤ 300 := by rw [ByteArray.size_append]; omega
        have hS : Hid (∀ V, Below w2.heap.size w2 V → V.cell? ⟨g + 1, 0, none⟩ = some (.int .i64 q) ∧ V.cell? ⟨g + 1, 1, none⟩ = some (.slice x l.length xc)) := Lib.hid fun V hV => ⟨(hV.cell (p := ⟨g + 1, 0, none⟩) hs2).trans d0, (hV.cell (p := ⟨g + 1, 1, none⟩) hs2).trans c1⟩
        have hl2 := hl.below (below_c B1 B2)
        have hB' : Below w2.heap.size w2 W.drew := hB.drew
        have cC := fun V (hV : Below w2.heap.size w2 V) => checksum_any q (.slice x l.length xc) l V (hl2.below hV) hn
        have cF := fun V => number11_any ((sumT (allT l) : Nat) : Int) 4 V
        have cO := fun V => contents_in q (.slice x l.length xc) V
        have cX := fun Bs V (hV : Below w2.heap.size w2 V) (h : Bxd V Bs x l.length xc) => collect_any Bs x xc l w2 V hl2 hn hV h.2 h.1 (by omega)
        have hws : w.heap.size ≤ w2.heap.size := (below_c B1 B2).size
        have hnew : ∀ V V', Below w2.heap.size w2 V → V' = V.alloc (.cells #[.int .i64 q, .slice x l.length xc] 30) → Below w2.heap.size w2 V' ∧ Bxd V' V.heap.size x l.length xc := fun V V' hV e => by
          subst e
          exact ⟨hV.alloc hV.size _, ⟨by rw [World.cell?_alloc_mark]; rfl, by simp⟩⟩
        have z5 : (headTo q l l.length).size + (numL ((sumT (allT l) : Nat) : Int) 4).size ≤ 9223372036854775807 := by omega
        have hLS : Hid (layS q l = headTo q l l.length ++ numL ((sumT (allT l) : Nat) : Int) 4) := Lib.hid rfl
        clear hsz hk hlt c2 c3 z2 hcl Bw
        generalize headTo q l l.length = HH at *
        generalize numL ((sumT (allT l) : Nat) : Int) 4 = NN at *
        have hadd : ∀ V, (Op.stringOp .add HH NN).run Tryz.prog V = .ok (.string (HH ++ NN)) V := fun V => run_string_add_sum V HH NN z5
        go_wp2_with (fail)
        go_region_held3 (fun V => V.cell? ⟨g + 1, 0, none⟩ = some (.int .i64 q) ∧ V.cell? ⟨g + 1, 1, none⟩ = some (.slice x l.length xc)) (first | exact hS.out _ (by assumption)) (first
          | (go_at_call 84; refine (cC _ (by assumption)).mono ?_; rintro e wa ⟨rfl, ba⟩; have Ba : Below w2.heap.size w2 wa := below_c (by assumption) ba; try (have Xa := Bxd.go (by assumption) ba); try (have Oa := Own.after (by assumption) ba))
          | (go_at_call 83; refine (cF _).mono ?_; rintro e wb ⟨rfl, bb⟩; have Bb : Below w2.heap.size w2 wb := below_c (by assumption) bb; try (have Xb := Bxd.go (by assumption) bb); try (have Ob := Own.after (by assumption) bb))
          | (go_at_call 86; refine (cO _).mono ?_; rintro e wc ⟨rfl, hwc⟩; obtain ⟨Bc, Xc⟩ := hnew _ _ (by assumption) hwc; clear hwc)
          | (go_at_call 85; refine (cX _ _ (by assumption) (by assumption)).mono ?_; rintro e wd ⟨vd, rfl, od, bd⟩; have Bd : Below w2.heap.size w2 wd := below_c (by assumption) bd))
        all_goals
          go_wp2_with (fail)
          refine bodyPost_ret (results_tmp3 rfl _ _ _) rfl ?_
          exact ⟨vd, by rw [hR]; simp only [if_true, hLS.out]; rfl, by rw [hR]; exact Own.mono (by assumption) (by have := Bc.size; omega), below_c (below_c B1 B2) (by assumption)⟩
end
end Go.Proofs.YtfadglcpapiklaaGreatDoor
end
section
namespace Go.Proofs.YtfadglcpapiklaaGreatDoor
section
open Go.RowKit
set_option linter.unusedVariables false
set_option linter.unusedSimpArgs false

open Rc
set_option maxRecDepth 100000 in
set_option maxHeartbeats 4000000 in
theorem same02_any (va vb : Value) (a b : List ByteArray) (w : World) (hA : Reads w va (a.map .string)) (hB : Reads w vb (b.map .string)) (hn : a.length ≤ 140737488355328) :
    Calls Tryz.prog 24 #[va, vb] w (Tells w (.bool (decide (a = b)))) := by
  obtain ⟨a0, ca, rfl, ga⟩ := hA.items
  obtain ⟨b0, cb, rfl, gb⟩ := hB.items
  clear hA hB
  by_cases h1 : a.length = b.length
  · have h1' := Lib.hid h1
    have t1 : (((a.length : Nat) : Int) != ((b.length : Nat) : Int)) = false := by rw [h1]; exact bne_self_eq_false _
    have t1' : (((a.length : Nat) : Int) == ((b.length : Nat) : Int)) = true := by rw [h1]; exact beq_self_eq_true _
    clear h1
    go_enter Tryz.func24, Tryz.ntmps24
    go_wp2_with (fail)
    clear t1 t1'
    go_loopw [5] (fun i wr => ∃ k : Nat, k ≤ a.length ∧ i = .int .i64 (k : Int) ∧ Below w.heap.size w wr ∧ Hid (∀ j, j < k → a[j]? = b[j]?)) (fun i _ => a.length - (RowKit.intOf i).toNat)
    case atStart => exact ⟨0, Nat.zero_le _, rfl, Below.refl _ _, Lib.hid fun j hj => absurd hj (Nat.not_lt_zero _)⟩
    case round =>
      obtain ⟨k, hk, rfl, hB, hj⟩ := hrel
      rename World => wr
      by_cases hlt : k < a.length
      · have hltb : k < b.length := by rw [← h1'.out]; exact hlt
        have y1 : (k : Int) < (a.length : Int) := by omega
        have y2 : (k : Int) < (b.length : Int) := by omega
        obtain ⟨p1, o1, rfl, l1, c1⟩ := ga k hlt
        obtain ⟨p2, o2, rfl, l2, c2⟩ := gb k hltb
        have d1 := (hB.cell (p := ⟨p1, o1 + k, none⟩) l1).trans c1
        have d2 := (hB.cell (p := ⟨p2, o2 + k, none⟩) l2).trans c2
        have e1 : a[k]? = some a[k] := List.getElem?_eq_getElem hlt
        have e2 : b[k]? = some b[k] := List.getElem?_eq_getElem hltb
        clear c1 c2
        by_cases he : a[k] = b[k]
        · have hj' : Hid (∀ j, j < k + 1 → a[j]? = b[j]?) := Lib.hid fun j hjk => by
            by_cases e : j = k
            · subst e; rw [e1, e2, he]
            · exact hj.out j (by omega)
          rw [← he] at d2
          generalize a[k] = rk at *
          clear he e1 e2 hj
          go_wp2_with (fail)
          go_quiet (fail)
          have hB3 := below_c hB (drew_below wr nq)
          go_wp2_with (fail)
          go_roundw
          case rel => exact ⟨k + 1, by omega, by go_num, hB3, hj'⟩
          case measure => simp [RowKit.intOf]; omega
        · have hz : Hid (decide (a = b) = false) := Lib.hid (by
            rw [decide_eq_false_iff_not]
            intro e; subst e; exact he rfl)
          generalize a[k] = rk at *
          generalize b[k] = qk at *
          have tq : (!rk.toList == qk.toList) = true := ne_toList he
          clear e1 e2 hj he
          go_wp2_with (fail)
          go_quiet (fail)
          have hB3 := below_c hB (drew_below wr nq)
          go_wp2_with (fail)
          go_ret
          exact ⟨by rw [hz.out]; rfl, hB3⟩
      · have hz : Hid (decide (a = b) = true) := Lib.hid (decide_eq_true (list_ext' h1'.out fun j hj' => hj.out j (by omega)))
        have y1 : ¬ ((k : Int) < (a.length : Int)) := by omega
        go_wp2_with (fail)
        go_ret
        exact ⟨by rw [hz.out]; rfl, hB⟩
  · have hz : Hid (decide (a = b) = false) := Lib.hid (by rw [decide_eq_false_iff_not]; intro e; exact h1 (by rw [e]))
    have t1 : (((a.length : Nat) : Int) == ((b.length : Nat) : Int)) = false := by rw [beq_eq_false_iff_ne]; omega
    go_enter Tryz.func24, Tryz.ntmps24
    go_wp2_with (fail)
    go_ret
    exact ⟨by rw [hz.out]; rfl, Below.refl _ _⟩
def pk11 (c n : Int) : Int := (if c < 0 then -(c + 1) else c) % n
theorem pk_rng11 (c n : Int) (h : 1 ≤ n) : 0 ≤ pk11 c n ∧ pk11 c n < n := by
  unfold pk11; exact ⟨Int.emod_nonneg _ (by omega), Int.emod_lt_of_pos _ (by omega)⟩
theorem pick11_any11 (c n : Int) (w : World) (h1 : -9223372036854775808 ≤ c) (h2 : c ≤ 9223372036854775807) (h3 : 1 ≤ n) (h4 : n ≤ 9223372036854775807) :
    Calls Tryz.prog 37 #[.int .i64 c, .int .i64 n] w fun e w' => e = .returned (.int .i64 (pk11 c n)) ∧ w = w' := by
  by_cases hc : c < 0
  · have hp : Hid (pk11 c n = -((c + 1).tmod n)) := Lib.hid (by unfold pk11; rw [if_pos hc, ← Int.neg_tmod, Int.tmod_eq_emod_of_nonneg (by omega)])
    go_enter Tryz.func37, Tryz.ntmps37
    go_wp2
    go_ret
    exact ⟨by rw [hp.out]; rfl, rfl⟩
  · have hp : Hid (pk11 c n = c % n) := Lib.hid (by unfold pk11; rw [if_neg hc])
    go_enter Tryz.func37, Tryz.ntmps37
    go_wp2
    go_ret
    exact ⟨by rw [hp.out]; rfl, rfl⟩
end
section
open Go.RowKit
set_option linter.unusedVariables false
set_option linter.unusedSimpArgs false

open Rc
def b811 (v : Int) : UInt8 := UInt8.ofNat v.toNat
theorem b8_val11 {v : Int} (h0 : 0 ≤ v) (h : v < 256) : v = (((b811 v).toNat : Nat) : Int) := by
  unfold b811
  rw [UInt8.toNat_ofNat']
  have : v.toNat % 2 ^ 8 = v.toNat := Nat.mod_eq_of_lt (by omega)
  rw [this]; omega
def rowTo (b : UInt8) (k : Nat) : List UInt8 := List.replicate k b ++ List.replicate (120 - k) 0
theorem rowTo_len (b : UInt8) {k : Nat} (h : k ≤ 120) : (rowTo b k).length = 120 := by simp [rowTo]; omega
theorem rowTo_set (b : UInt8) {k : Nat} (h : k < 120) : (rowTo b k).set k b = rowTo b (k + 1) := by
  unfold rowTo
  rw [List.set_append_right _ _ (by simp), List.length_replicate, Nat.sub_self, show 120 - k = (120 - (k + 1)) + 1 by omega, List.replicate_succ, List.set_cons_zero, List.replicate_succ' , List.append_assoc]; rfl
def blockS11 (n : Int) : ByteArray := lineOf (((rowTo (b811 (pk11 n 251)) 120).set 0 (b811 (pk11 n 256))).set 1 (b811 (pk11 n 65536 / 256)))
theorem blockS_size11 (n : Int) : (blockS11 n).size = 120 := by unfold blockS11; rw [lineOf_size, List.length_set, List.length_set, rowTo_len _ (Nat.le_refl _)]
set_option maxRecDepth 100000 in
set_option maxHeartbeats 4000000 in
theorem block_any11 (n : Int) (w : World) (h1 : -9223372036854775808 ≤ n) (h2 : n ≤ 9223372036854775807) : Calls Tryz.prog 34 #[.int .i64 n] w (Tells w (.string (blockS11 n))) := by
  obtain ⟨w1, hmk, hr, hb⟩ := BRow.make_run w 120 (by decide)
  have p1 := pk_rng11 n 251 (by decide)
  have p2 := pk_rng11 n 256 (by decide)
  have p3 := pk_rng11 n 65536 (by decide)
  have cA := fun W => pick11_any11 n 251 W h1 h2 (by decide) (by decide)
  have cB := fun W => pick11_any11 n 256 W h1 h2 (by decide) (by decide)
  have cC := fun W => pick11_any11 n 65536 W h1 h2 (by decide) (by decide)
  obtain ⟨g, hg⟩ : ∃ g, w.heap.size = g := ⟨_, rfl⟩
  rw [hg] at hmk hr
  replace hmk : (Instr.makeSlice 113 (.int .i64 120) (.int .i64 120)).run Tryz.prog w = .ok (.slice (some ⟨g, 0, none⟩) 120 120) w1 := hmk
  replace hb := hb.1
  replace hg := Lib.hid hg
  have hS : Hid (blockS11 n = lineOf (((rowTo (b811 (pk11 n 251)) 120).set 0 (b811 (pk11 n 256))).set 1 (b811 (pk11 n 65536 / 256)))) := Lib.hid rfl
  generalize blockS11 n = S at *
  generalize pk11 n 251 = a at *
  generalize pk11 n 256 = b at *
  generalize pk11 n 65536 = c at *
  have q0 : c.tdiv 256 = c / 256 := Int.tdiv_eq_ediv_of_nonneg p3.1
  have u1 : IntKind.u8.wrap a = a := IntWalk.u8_in _ (by omega)
  have u2 : IntKind.u8.wrap b = b := IntWalk.u8_in _ (by omega)
  have u3 : IntKind.u8.wrap (c.tdiv 256) = c.tdiv 256 := IntWalk.u8_in _ (by omega)
  have u4 : IntKind.i64.wrap (c.tdiv 256) = c.tdiv 256 := IntWalk.i64_in _ (by omega)
  have b1 := b8_val11 p1.1 (show a < 256 by omega)
  have b2 := b8_val11 p2.1 p2.2
  have b3 : c.tdiv 256 = (((b811 (c / 256)).toNat : Nat) : Int) := by rw [q0]; exact b8_val11 (by omega) (by omega)
  replace b1 := Lib.hid b1
  replace b2 := Lib.hid b2
  replace b3 := Lib.hid b3
  clear q0
  generalize b811 a = a8 at *
  generalize b811 b = b8' at *
  generalize b811 (c / 256) = c8 at *
  have hgw : w.heap.size ≤ g := by have := hg.out; omega
  go_enter Tryz.func34, Tryz.ntmps34
  go_wp2_with (fail)
  clear hmk
  go_loopw [4] (fun i W => ∃ k : Nat, k ≤ 120 ∧ i = .int .i64 (k : Int) ∧ BRow W g (rowTo a8 k) ∧ Below w.heap.size w W) (fun i _ => 120 - (RowKit.intOf i).toNat)
  case atStart => exact ⟨0, Nat.zero_le _, rfl, hr, hb⟩
  case round =>
    obtain ⟨k, hk, rfl, hR, hB⟩ := hrel
    rename World => W
    clear hr hb
    by_cases hlt : k < 120
    · have y1 : (k : Int) < 120 := by omega
      have hl := rowTo_len a8 (k := k) hk
      have c1 := hR.cell (i := k) (by omega)
      have f1 := hR.frozen k
      have hR2 := hR.set (i := k) (by omega) a8 a b1.out
      rw [rowTo_set a8 hlt] at hR2
      have hB2 := hB.setCell (p := ⟨g, k, none⟩) hgw (.int .u8 a)
      go_wp2_with (fail)
      refine (cA W).mono ?_
      rintro e w' ⟨rfl, rfl⟩
      go_wp2_with (fail)
      go_roundw
      case rel => exact ⟨k + 1, by omega, by go_num, hR2, hB2⟩
      case measure => simp [RowKit.intOf]; omega
    · obtain rfl : k = 120 := by omega
      have y1 : ¬ (((120 : Nat) : Int) < 120) := by omega
      have hl := rowTo_len a8 (k := 120) (Nat.le_refl _)
      have c1 := hR.cell (i := 0) (by omega)
      have f1 := hR.frozen 0
      have R1 := hR.set (i := 0) (by omega) b8' b b2.out
      have B1 := hB.setCell (p := ⟨g, 0, none⟩) hgw (.int .u8 b)
      have hl1 : ((rowTo a8 120).set 0 b8').length = 120 := by rw [List.length_set]; exact hl
      have c2 := R1.cell (i := 1) (by omega)
      have f2 := R1.frozen 1
      have R2 := R1.set (i := 1) (by omega) c8 (c.tdiv 256) b3.out
      have B2 := B1.setCell (p := ⟨g, 1, none⟩) hgw (.int .u8 (c.tdiv 256))
      have hst := R2.str 120 120 (by rw [List.length_set]; exact hl1.symm)
      rw [← hS.out] at hst
      go_wp2_with (fail)
      refine (cB W).mono ?_
      rintro e w' ⟨rfl, rfl⟩
      go_wp2_with (fail)
      refine (cC _).mono ?_
      rintro e w' ⟨rfl, rfl⟩
      go_wp2_with (fail)
      go_ret
      exact ⟨rfl, B2⟩
end
end Go.Proofs.YtfadglcpapiklaaGreatDoor
end
