/- journal: what the laws of journal have in common. -/
import Derived.Test.YtfadglcpapiklaaGreatDoorJrnMath4
import Derived.Test.YtfadglcpapiklaaGreatDoorLrecc
import Derived.Test.YtfadglcpapiklaaGreatDoorLrack
namespace Go.Proofs.YtfadglcpapiklaaGreatDoor
open Go.RowKit
open Rc
set_option linter.unusedVariables false
set_option linter.unusedSimpArgs false
set_option maxRecDepth 100000

theorem pick12_any (c n : Int) (w : World) (h1 : -9223372036854775808 ≤ c) (h2 : c ≤ 9223372036854775807) (h3 : 1 ≤ n) (h4 : n ≤ 9223372036854775807) :
    Calls Tryz.prog 12 #[.int .i64 c, .int .i64 n] w fun e w' => e = .returned (.int .i64 (pk11 c n)) ∧ w = w' := by
  by_cases hc : c < 0
  · have hp : Hid (pk11 c n = -((c + 1).tmod n)) := Lib.hid (by unfold pk11; rw [if_pos hc, ← Int.neg_tmod, Int.tmod_eq_emod_of_nonneg (by omega)])
    go_enter Tryz.func12, Tryz.ntmps12
    go_wp2
    go_ret
    exact ⟨by rw [hp.out]; rfl, rfl⟩
  · have hp : Hid (pk11 c n = c % n) := Lib.hid (by unfold pk11; rw [if_neg hc])
    go_enter Tryz.func12, Tryz.ntmps12
    go_wp2
    go_ret
    exact ⟨by rw [hp.out]; rfl, rfl⟩
def GivesZ (w : World) (l : List Int) (e : Ending) (w' : World) : Prop := ∃ v, e = .returned v ∧ Own w' w.heap.size 3 v (l.map (.int .i64)) ∧ Below w.heap.size w w'
set_option maxHeartbeats 2000000 in
theorem all12_any (k m : Nat) (B : Int) (w : World) (hk : k ≤ 100) (hm : m ≤ 100) : Calls Tryz.prog 14 #[.agg #[.int .i64 (k : Int), .int .i64 (m : Int), .int .i64 B]] w (GivesZ w (allL (k + m))) := by
  obtain ⟨i3, q1, q2, q3, q4⟩ := info_parts Tryz.infoI
  have hA := SGeoAt.new w (k : Int) (m : Int) B
  have hbS : Below w.heap.size w (w.alloc (.cells #[.int .i64 (k : Int), .int .i64 (m : Int), .int .i64 B] 23)) := (Below.refl _ w).alloc (Nat.le_refl _) _
  obtain ⟨W0, hW0⟩ : ∃ W0, W0 = w.alloc (.cells #[.int .i64 (k : Int), .int .i64 (m : Int), .int .i64 B] 23) := ⟨_, rfl⟩
  rw [← hW0] at hA hbS
  go_enter Tryz.func14, Tryz.ntmps14
  go_wp2_with (fail)
  rw [show w.alloc (.cells #[.int .i64 (k : Int), .int .i64 (m : Int), .int .i64 B] 23) = W0 from hW0.symm]
  clear hW0
  go_loopw [3, 4] (fun u t wr => ∃ i : Nat, i ≤ k + m ∧ t = .int .i64 (i : Int) ∧ Own wr W0.heap.size 3 u ((allL i).map (.int .i64)) ∧ Below W0.heap.size W0 wr) (fun _ t _ => k + m - (RowKit.intOf t).toNat)
  case atStart => exact ⟨0, Nat.zero_le _, rfl, Own.nil _ _ _, Below.refl _ _⟩
  case round =>
    obtain ⟨i, hi, rfl, ho, hB⟩ := hrel
    rename World => wr
    have d0 : wr.cell? ⟨w.heap.size, 0, none⟩ = some (.int .i64 (k : Int)) := (hB.cell (p := ⟨w.heap.size, 0, none⟩) hA.lt).trans hA.k
    have d1 : wr.cell? ⟨w.heap.size, 1, none⟩ = some (.int .i64 (m : Int)) := (hB.cell (p := ⟨w.heap.size, 1, none⟩) hA.lt).trans hA.m
    have HAA := Lib.hid hA
    clear hA
    by_cases hlt : i < k + m
    · have y1 : (i : Int) < (k : Int) + (m : Int) := by omega
      obtain ⟨v8, w8, hap, o8, b8, _⟩ := Own.pushA (P := Tryz.prog) (T := 24) Tryz.underlying24 q1 q2 q3 q4 rfl ho (.int .i64 (i : Int)) rfl hB.size (by rw [List.length_map, allL_len]; omega) (by rw [List.length_map, allL_len]; omega)
      have hnx : (allL i).map (Value.int .i64) ++ [.int .i64 (i : Int)] = (allL (i + 1)).map (Value.int .i64) := by simp [allL, List.range_succ]
      rw [hnx] at o8
      have HO := Lib.hid (And.intro o8 (hB.trans b8))
      clear o8 b8 hnx ho hB
      go_wp2_with (at_builtin; refine wpList_append_run hap _ _ rfl rfl rfl rfl rfl ?_)
      go_roundw
      case rel => exact ⟨i + 1, by omega, by go_num, HO.out.1, HO.out.2⟩
      case measure => simp [RowKit.intOf]; omega
    · obtain rfl : i = k + m := by omega
      have y1 : ¬ (((k + m : Nat) : Int) < (k : Int) + (m : Int)) := by omega
      have HO := Lib.hid (And.intro (ho.down hbS.size) (hbS.trans (hB.mono hbS.size)))
      clear ho hB
      go_wp2_with (fail)
      go_ret
      exact ⟨_, rfl, HO.out.1, HO.out.2⟩
def RacksTo (w : World) (n s : Nat) (e : Ending) (w' : World) : Prop := ∃ Sa ka w2 Sb kb, e = .returned (.tuple #[.pointer (some ⟨ka, 0, none⟩), .pointer (some ⟨kb, 0, none⟩)]) ∧ RA w Sa w' ka n (R00 s) ∧ KA w2 Sb w' kb n (R00 s) ∧ w.heap.size ≤ w2.heap.size ∧ (∀ x, Sa x → x < w2.heap.size)
theorem RA.base {w w3 w1 : World} {S : Nat → Prop} {k n : Nat} {R : Rk} (h : RA w3 S w1 k n R) (hb : Below w.heap.size w w3) : RA w S w1 k n R := ⟨hb.trans (h.b.mono hb.size), fun x hx => Nat.le_trans hb.size (RA.from h x hx), h.h⟩
set_option maxHeartbeats 2000000 in
theorem racks12_any {n sec k m : Nat} {B : Int} (hG : Gm n sec k m B) (w : World) : Calls Tryz.prog 11 #[.agg #[.int .i64 (k : Int), .int .i64 (m : Int), .int .i64 B], .int .i64 0] w (RacksTo w n sec) := by
  have hr := hG.rng
  have cS : Hid (∀ W, Calls Tryz.prog 38 #[.agg #[.int .i64 (k : Int), .int .i64 (m : Int), .int .i64 B]] W fun e w' => e = .returned (.int .i64 (n : Int)) ∧ Below W.heap.size W w') := Lib.hid fun W => by
    have := rslots_any (k : Int) (m : Int) B W
    rw [slots_eq hG.g, show (k : Int) + (m : Int) = (n : Int) by have := hG.n; omega] at this
    exact this
  have cT : Hid (∀ W, Calls Tryz.prog 39 #[.agg #[.int .i64 (k : Int), .int .i64 (m : Int), .int .i64 B]] W fun e w' => e = .returned (.int .i64 (sec : Int)) ∧ Below W.heap.size W w') := Lib.hid fun W => by rw [← hG.s]; exact rsectors_any _ _ _ W
  have cP : Hid (∀ W, Calls Tryz.prog 12 #[.int .i64 0, .int .i64 12] W fun e w' => e = .returned (.int .i64 0) ∧ W = w') := Lib.hid fun W => pick12_any 0 12 W (by decide) (by decide) (by decide) (by decide)
  obtain ⟨g, hgs⟩ : ∃ g, w.heap.size = g := ⟨_, rfl⟩
  obtain ⟨W0, hW0⟩ : ∃ W0, W0 = w.alloc (.cells #[.int .i64 (k : Int), .int .i64 (m : Int), .int .i64 B] 23) := ⟨_, rfl⟩
  have hb0 : Below w.heap.size w W0 := by rw [hW0]; exact (Below.refl _ _).alloc (Nat.le_refl _) _
  have hg0 : W0.heap[g]? = some (.cells #[.int .i64 (k : Int), .int .i64 (m : Int), .int .i64 B] 23 (0, 0)) := by rw [hW0, ← hgs]; exact heap_alloc_new _ _
  have hgl := (Array.getElem?_eq_some_iff.1 hg0).1
  have HG : Hid (∀ W, Below W0.heap.size W0 W → W.cell? ⟨g, 0, none⟩ = some (.int .i64 (k : Int)) ∧ W.cell? ⟨g, 1, none⟩ = some (.int .i64 (m : Int)) ∧ W.cell? ⟨g, 2, none⟩ = some (.int .i64 B)) := Lib.hid fun W hW => by
    have e := (hW.block g hgl).trans hg0
    exact ⟨heap_cell e rfl, heap_cell e rfl, heap_cell e rfl⟩
  have HB0 := Lib.hid hb0
  obtain ⟨c0, c1, c2⟩ := HG.out W0 (Below.refl _ _)
  clear hg0 hgl hb0
  go_enter Tryz.func11, Tryz.ntmps11
  go_wp2_with (fail)
  rw [show w.alloc (.cells #[.int .i64 (k : Int), .int .i64 (m : Int), .int .i64 B] 23) = W0 from hW0.symm]
  clear hW0 hgs
  refine (cS.out W0).mono ?_
  rintro e w1 ⟨rfl, b1⟩
  clear c0 c1 c2 cS
  obtain ⟨c0, c1, c2⟩ := HG.out w1 b1
  go_wp2_with (fail)
  refine (cT.out w1).mono ?_
  rintro e w2 ⟨rfl, b2⟩
  have b02 := b1.trans (b2.mono b1.size)
  clear c0 c1 c2 cT
  go_wp2_with (fail)
  refine (cP.out w2).mono ?_
  rintro e w2' ⟨rfl, rfl⟩
  have cA := rs_new n sec w2 (by omega) (by omega) (by omega) (by omega)
  go_wp2_with (fail)
  refine cA.mono ?_
  rintro e w3 ⟨Sa, ka, rfl, ha⟩
  have cB := kt_new n sec w3 (by omega) (by omega) (by omega) (by omega)
  have Ha := Lib.hid ha
  have HB2 := Lib.hid (HB0.out.trans (b02.mono HB0.out.size))
  clear cA ha b1 b2 b02 cP
  go_wp2_with (fail)
  refine cB.mono ?_
  rintro e w4 ⟨Sb, kb, rfl, hb⟩
  have hA : RA w2 Sa w3 ka n (R00 sec) := Ha.out
  have b34 : Below w3.heap.size w3 w4 := hb.b
  have hfin : Hid (RA w Sa w4 ka n (R00 sec) ∧ KA w3 Sb w4 kb n (R00 sec) ∧ w.heap.size ≤ w3.heap.size ∧ ∀ x, Sa x → x < w3.heap.size) := Lib.hid ⟨(hA.after b34).base HB2.out, hb, Nat.le_trans HB2.out.size hA.b.size, fun x hx => hA.lt x hx⟩
  clear cB hb hA b34
  go_wp2_with (fail)
  go_ret2
  exact ⟨Sa, ka, w3, Sb, kb, rfl, hfin.out⟩
end Go.Proofs.YtfadglcpapiklaaGreatDoor
