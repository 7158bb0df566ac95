/- label: the fields of a label, joined. -/
import Derived.Test.YtaopknddpagjeaaDoorLabWalk6
import Derived.Test.YtaopknddpagjeaaDoorSl3
namespace Go.Proofs.YtaopknddpagjeaaDoor
open Go.RowKit
set_option linter.unusedVariables false
set_option linter.unusedSimpArgs false
open Lb

/-- 'append' of what was made, for elements of several cells. -/
theorem run_append_madeK {P : Program} {T E I : TypeId} {k : IntKind} {i : TypeInfo} {z : Value} {bytes K : Nat} (hT : P.underlying T = some (.slice E)) (hI : P.underlying I = some (.int k)) (hi : P.info? E = some i) (hz : i.zero = some z) (hs : i.size = K) (hK : 0 < K) (hy : i.bytes = bytes) (hzs : z.cells.size = K)
    (ty : TypeId) (w : World) (n : Nat) (h0 : 1 ≤ n) (hn : n ≤ 1000) (hb : bytes ≤ 1000) :
    ∃ c cur, n ≤ c ∧ c ≤ maxLen ∧ cur.size = c * K ∧ (Builtin.append_ #[T, I] ty #[.slice none 0 0, .int .i64 (n : Int)]).run P w = .ok (.slice (some ⟨w.heap.size, 0, none⟩) n c) (w.drew.alloc (.cells cur E)) := by
  have e1 : IntKind.i64.wrap (n : Int) = (n : Int) := IntWalk.i64_in _ (by omega)
  have e2 : ¬ ((n : Int) < 0) := by omega
  have e3 : ¬ (281474976710656 < (n : Int) * (i.bytes : Int)) := by
    have : n * i.bytes ≤ 1000 * 1000 := Nat.mul_le_mul hn (by omega)
    have e : (n : Int) * (i.bytes : Int) = ((n * i.bytes : Nat) : Int) := by push_cast; rfl
    omega
  have e4 : ¬ (n = 0) := by omega
  have e5 : ¬ (9223372036854775807 < (n : Int)) := by omega
  have e6 : ¬ (281474976710656 < Builtin.nextslicecap n 0 * i.bytes) := by
    rw [nextslicecap_zero (by omega)]
    have : n * i.bytes ≤ 1000 * 1000 := Nat.mul_le_mul hn (by omega)
    omega
  have e7 : ¬ (n * i.size = 0) := Nat.mul_ne_zero e4 (by omega)
  have e8 : ¬ (n = 0 ∨ i.size = 0) := by omega
  have e9 : ¬ (i.size = 0) := by omega
  have hge := grownCap_ge w n 0 E
  refine ⟨grownCap w n 0 E, Builtin.zeroCells z.cells n ++ Builtin.zeroCells z.cells (grownCap w n 0 E - n), hge, grownCap_le_maxLen w n 0 E (by unfold maxLen; omega), ?_, ?_⟩
  · rw [Array.size_append, size_zeroCells, size_zeroCells, hzs, ← Nat.add_mul]; congr 1; omega
  · simp [Builtin.append_, run_underlying hT, run_underlying hI, sizeOf, typeInfo, zeroValue, hi, hz, e1, e2, e3, e4, e5, e6, e7, e8, e9, asInt, asIntOf, Question.forced, run_firstCells_none, newRow, grownCap]
def GivesF (w : World) (l : List (Addr × Int)) (e : Ending) (w' : World) : Prop := ∃ v, e = .returned v ∧ OwnE fieldE w' w.heap.size 61 v l ∧ Below w.heap.size w w'
set_option maxRecDepth 100000 in
set_option maxHeartbeats 1000000 in
theorem fgrow_nil (n : Nat) (w : World) (h1 : 1 ≤ n) (h2 : n ≤ 1000) :
    Calls Tryd.prog 57 #[.slice none 0 0, .int .i64 (n : Int)] w (GivesF w []) := by
  obtain ⟨i0, hi, hz0, hz1, hz2⟩ := info_parts Tryd.infoF
  obtain ⟨c, cur, hc1, hc2, hcs, hap⟩ := run_append_madeK (P := Tryd.prog) (T := 57) (I := 3) (K := 2) Tryd.underlying57 Tryd.underlying3 hi hz0 hz1 (by decide) hz2 rfl 57 w n h1 h2 (by decide)
  have hcs' := Lib.hid hcs
  clear hcs
  go_enter Tryd.func57, Tryd.ntmps57
  go_wp2_with (at_builtin; refine wpList_append_run2 hap _ _ rfl rfl rfl rfl rfl ?_)
  go_ret
  refine ⟨.slice (some ⟨w.heap.size, 0, none⟩) 0 c, rfl, ⟨⟨rfl, .inr ⟨w.heap.size, c, cur, rfl, Nat.le_refl _, heap_alloc_new _ _, Nat.zero_le _, hc2, hcs'.out, by simp [Enc.all]⟩⟩⟩, ((Below.refl _ w).drew).alloc (Nat.le_refl _) _⟩
set_option maxRecDepth 100000 in
set_option maxHeartbeats 1000000 in
theorem fconcat (va vb : Value) (a b : List (Addr × Int)) (g cap : Nat) (w : World) (hg : g < w.heap.size) (h0 : w.cell? ⟨g, 0, none⟩ = some va) (h1 : w.cell? ⟨g, 1, none⟩ = some vb) (hA : ReadsE fieldE w va a) (hB : ReadsE fieldE w vb b) (la : 1 ≤ a.length) (lb : a.length ≤ 100) (lc : b.length ≤ 100) :
    Calls Tryd.prog 27 #[.slice (some ⟨g, 0, none⟩) 2 cap] w (GivesF w (a ++ b)) := by
  obtain ⟨i0, hi, hz0, hz1, hz2⟩ := info_parts Tryd.infoF
  have lea := fun W => hA.len_run (P := Tryd.prog) Tryd.underlying57 3 W
  have leb := fun W => hB.len_run (P := Tryd.prog) Tryd.underlying57 3 W
  have hgr := fun W => fgrow_nil (a.length + b.length) W (by omega) (by omega)
  rw [show ((a.length + b.length : Nat) : Int) = (a.length : Int) + (b.length : Int) by push_cast; rfl] at hgr
  go_enter Tryd.func27, Tryd.ntmps27
  go_wp2_with (fail)
  go_loopw [3, 5, 11] (fun z _ i wr => w = wr ∧ ((i = .int .i64 0 ∧ z = .int .i64 0) ∨ (i = .int .i64 1 ∧ z = .int .i64 (a.length : Int)) ∨ (i = .int .i64 2 ∧ z = .int .i64 ((a.length : Int) + (b.length : Int))))) (fun _ _ i _ => 2 - (intOf i).toNat)
  case atStart => exact ⟨rfl, .inl ⟨rfl, rfl⟩⟩
  case round =>
    obtain ⟨rfl, hrel⟩ := hrel
    rcases hrel with ⟨rfl, rfl⟩ | ⟨rfl, rfl⟩ | ⟨rfl, rfl⟩
    · go_wp2_with (fail)
      go_roundw
      case rel => exact ⟨(by first | rfl | trivial), .inr (.inl ⟨rfl, by go_num⟩)⟩
      case measure => simp [intOf]
    · go_wp2_with (fail)
      go_roundw
      case rel => exact ⟨(by first | rfl | trivial), .inr (.inr ⟨rfl, rfl⟩)⟩
      case measure => simp [intOf]
    · go_wp2_with (fail)
      refine (hgr _).mono ?_
      rintro e w1 ⟨v1, rfl, o1, b1⟩
      have hA1 := hA.below b1
      obtain ⟨v2, w2, hap2, o2, b2, k2, _⟩ := OwnE.pushAll (P := Tryd.prog) (S := 57) Tryd.underlying57 hi hz0 hz1 hz2 rfl o1 hA1 b1.size (by simp; omega) (by simp; omega)
      have b12 := b1.trans b2
      have hB2 := hB.below b12
      obtain ⟨v3, w3, hap3, o3, b3, k3, _⟩ := OwnE.pushAll (P := Tryd.prog) (S := 57) Tryd.underlying57 hi hz0 hz1 hz2 rfl o2 hB2 b12.size (by simp; omega) (by simp; omega)
      have c0 : w1.cell? ⟨g, 0, none⟩ = some va := by rw [b1.cell (p := ⟨g, 0, none⟩) hg]; exact h0
      have c1 : w2.cell? ⟨g, 1, none⟩ = some vb := by rw [b12.cell (p := ⟨g, 1, none⟩) hg]; exact h1
      go_wp2_with (fail)
      go_loopw [6, 8, 27] (fun u _ i wr => (i = .int .i64 0 ∧ u = v1 ∧ w1 = wr) ∨ (i = .int .i64 1 ∧ u = v2 ∧ w2 = wr) ∨ (i = .int .i64 2 ∧ u = v3 ∧ w3 = wr)) (fun _ _ i _ => 2 - (intOf i).toNat)
      case atStart => exact .inl ⟨rfl, rfl, rfl⟩
      case round =>
        rcases hrel with ⟨rfl, rfl, rfl⟩ | ⟨rfl, rfl, rfl⟩ | ⟨rfl, rfl, rfl⟩
        · go_wp2_with (at_builtin; refine wpList_append_run2 hap2 _ _ rfl rfl rfl rfl rfl ?_)
          go_roundw
          case rel => exact .inr (.inl ⟨rfl, rfl, (by first | rfl | trivial)⟩)
          case measure => simp [intOf]
        · go_wp2_with (at_builtin; refine wpList_append_run2 hap3 _ _ rfl rfl rfl rfl rfl ?_)
          go_roundw
          case rel => exact .inr (.inr ⟨rfl, rfl, (by first | rfl | trivial)⟩)
          case measure => simp [intOf]
        · go_wp2_with (fail)
          go_ret
          refine ⟨_, rfl, ?_, b12.trans b3⟩
          rw [List.nil_append] at o3
          exact o3
end Go.Proofs.YtaopknddpagjeaaDoor
