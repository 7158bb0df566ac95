/- journal: Tells, Last. -/
import Derived.Test.YtfadglcpapiklaaGreatDoorJrnLook
import Derived.Test.YtfadglcpapiklaaGreatDoorLrecb
import Derived.Deep.CutBlock
namespace Go.Proofs.YtfadglcpapiklaaGreatDoor
open Go.RowKit
open Rc
set_option linter.unusedVariables false
set_option linter.unusedSimpArgs false
set_option maxRecDepth 100000

/-- Is a slot readable? -/
def tlM (n : Nat) (R : Rk) (id K M B slot : Int) : Bool := decide (sfitsB n R id K M B = true ∧ R.off = false ∧ srightB [slot] (n : Int) = true ∧ (lkM n R id K M B slot (gHead K M B 0)).2.2 = true ∧ (lkM n R id K M B slot (gHead K M B 1)).2.2 = true)
theorem head_01 {K M B : Int} (hg : gR K M B = true) : (0 ≤ gHead K M B 0 ∧ gHead K M B 0 ≤ 100) ∧ 0 ≤ gHead K M B 1 ∧ gHead K M B 1 ≤ 100 := by
  have hK := gR_true hg
  unfold gHead
  rw [hg]
  simp
  omega
theorem sfits_g {n : Nat} {R : Rk} {id K M B : Int} (h : sfitsB n R id K M B = true) : gR K M B = true := by
  unfold sfitsB at h
  simp only [Bool.and_eq_true] at h
  exact h.2.2.1
/-- The head of a bay, by its number. -/
def bayA (K M B : Int) (j : Nat) : Int := if j = 0 then gHead K M B 0 else gHead K M B 1
section
variable {w w1 : World} {S : Nat → Prop} {k n : Nat} {R : Rk}
set_option maxHeartbeats 4000000 in
theorem tells_any (h : RA w S w1 k n R) (hk : ROk n R 1000000000000) (id K M B slot : Int) :
    Calls Tryz.prog 32 #[.pointer (some ⟨k, 0, none⟩), .int .i64 id, .agg #[.int .i64 K, .int .i64 M, .int .i64 B], .int .i64 slot] w1 fun e w' => e = .returned (.bool (tlM n R id K M B slot)) ∧ Below w1.heap.size w1 w' := by
  obtain ⟨W0, hW0⟩ : ∃ W0, W0 = w1.alloc (.cells #[.int .i64 K, .int .i64 M, .int .i64 B] 23) := ⟨_, rfl⟩
  obtain ⟨p, hp⟩ : ∃ p, w1.heap.size = p := ⟨_, rfl⟩
  have hb0 : Below w1.heap.size w1 W0 := by rw [hW0]; exact (Below.refl _ _).alloc (Nat.le_refl _) _
  have hg : W0.heap[p]? = some (.cells #[.int .i64 K, .int .i64 M, .int .i64 B] 23 (0, 0)) := by rw [hW0, ← hp]; exact heap_alloc_new _ _
  have hpl := (Array.getElem?_eq_some_iff.1 hg).1
  have BX : Hid (∀ W, Below W0.heap.size W0 W → W.cell? ⟨p, 0, none⟩ = some (.int .i64 K) ∧ W.cell? ⟨p, 1, none⟩ = some (.int .i64 M) ∧ W.cell? ⟨p, 2, none⟩ = some (.int .i64 B)) := Lib.hid fun W hW => by
    have e := (hW.block p hpl).trans hg
    exact ⟨heap_cell e rfl, heap_cell e rfl, heap_cell e rfl⟩
  obtain ⟨y1, y2, y3⟩ := BX.out W0 (Below.refl _ _)
  have cF := sfits_any (h.after hb0) id K M B
  have CO : Hid (∀ W, Below w1.heap.size w1 W → Calls Tryz.prog 57 #[.pointer (some ⟨k, 0, none⟩)] W fun e w' => e = .returned (.bool R.off) ∧ W = w') := Lib.hid fun W hW => rt_off (h.after hW)
  have CLK : Hid (∀ W (slot a : Int), Below w1.heap.size w1 W → 0 ≤ a ∧ a ≤ 100 → Calls Tryz.prog 59 #[.pointer (some ⟨k, 0, none⟩), .int .i64 id, .agg #[.int .i64 K, .int .i64 M, .int .i64 B], .int .i64 slot, .int .i64 a] W (LookTo W (lkM n R id K M B slot a))) := Lib.hid fun W slot a hW ha => look_any (h.after hW) hk id K M B slot a ha
  have HB0 := Lib.hid hb0
  clear hg hpl hb0
  obtain ⟨X, hX⟩ : ∃ X, tlM n R id K M B slot = X := ⟨_, rfl⟩
  rw [hX]
  unfold tlM at hX
  have CRt : Hid (∀ W, Below w1.heap.size w1 W → Calls Tryz.prog 42 #[.slice (some ⟨W.heap.size, 0, none⟩) 1 1, .int .i64 (n : Int)] (W.alloc (.cells #[.int .i64 slot] 3)) fun e w' => e = .returned (.bool (srightB [slot] (n : Int))) ∧ (W.alloc (.cells #[.int .i64 slot] 3)) = w') := Lib.hid fun W hW => sright_any _ [slot] _ (row_one W slot) (Nat.le_refl _) _ (by simp)
  have CS : Hid (∀ W, Below w1.heap.size w1 W → Calls Tryz.prog 43 #[.pointer (some ⟨k, 0, none⟩)] W fun e w' => e = .returned (.int .i64 (n : Int)) ∧ W = w') := Lib.hid fun W hW => rt_slots (h.after hW)
  have HX := Lib.hid hX
  clear hX h hk
  by_cases hfit : sfitsB n R id K M B = true
  · rw [hfit] at cF
    have hg01 := head_01 (sfits_g hfit)
    by_cases hoff : R.off = true
    · rw [hoff] at CO
      have HXX : Hid (X = false) := Lib.hid (by rw [← HX.out]; exact decide_eq_false fun z => by have := z.2.1; rw [hoff] at this; cases this)
      clear HX hfit hoff hg01
      go_enter Tryz.func32, Tryz.ntmps32
      go_wp2_with (fail)
      rw [show w1.alloc (.cells #[.int .i64 K, .int .i64 M, .int .i64 B] 23) = W0 from hW0.symm]
      clear hW0 hp
      refine cF.mono ?_
      rintro e w2 ⟨rfl, b2⟩
      clear cF y1 y2 y3
      go_wp2_with (fail)
      refine (CO.out w2 (HB0.out.trans (b2.mono HB0.out.size))).mono ?_
      rintro e w2' ⟨rfl, rfl⟩
      have hfin := Lib.hid (HB0.out.trans (b2.mono HB0.out.size))
      clear b2
      go_wp2_with (fail)
      go_ret
      rw [HXX.out]
      exact ⟨rfl, hfin.out⟩
    · rw [Bool.not_eq_true] at hoff
      rw [hoff] at CO
      by_cases hri : srightB [slot] (n : Int) = true
      · rw [hri] at CRt
        have HGG := Lib.hid (show _ ∧ _ ∧ _ from ⟨hfit, hoff, hri⟩)
        have hA0 : bayA K M B 0 = gHead K M B 0 := rfl
        have hA1 : bayA K M B 1 = gHead K M B 1 := rfl
        have CLA : Hid (∀ W j, j < 2 → Below w1.heap.size w1 W → Calls Tryz.prog 59 #[.pointer (some ⟨k, 0, none⟩), .int .i64 id, .agg #[.int .i64 K, .int .i64 M, .int .i64 B], .int .i64 slot, .int .i64 (bayA K M B j)] W (LookTo W (lkM n R id K M B slot (bayA K M B j)))) := Lib.hid fun W j hj hW => CLK.out W slot (bayA K M B j) hW (by
          rcases (by omega : j = 0 ∨ j = 1) with rfl | rfl
          · exact hg01.1
          · exact hg01.2)
        clear hfit hoff hri hg01
        go_enter Tryz.func32, Tryz.ntmps32
        go_wp2_with (fail)
        rw [show w1.alloc (.cells #[.int .i64 K, .int .i64 M, .int .i64 B] 23) = W0 from hW0.symm]
        clear hW0 hp
        refine cF.mono ?_
        rintro e w2 ⟨rfl, b2⟩
        clear cF y1 y2 y3
        go_wp2_with (fail)
        refine (CO.out w2 (HB0.out.trans (b2.mono HB0.out.size))).mono ?_
        rintro e w2' ⟨rfl, rfl⟩
        go_wp2_with (fail)
        refine (CS.out (w2.alloc (.cells #[.int .i64 slot] 3)) ((HB0.out.trans (b2.mono HB0.out.size)).alloc (HB0.out.trans (b2.mono HB0.out.size)).size _)).mono ?_
        rintro e w2' ⟨rfl, rfl⟩
        go_wp2_with (fail)
        refine (CRt.out w2 (HB0.out.trans (b2.mono HB0.out.size))).mono ?_
        rintro e w2' ⟨rfl, rfl⟩
        obtain ⟨W3, hW3⟩ : ∃ W3, W3 = w2.alloc (.cells #[.int .i64 slot] 3) := ⟨_, rfl⟩
        rw [← hW3]
        have b3 : Below w2.heap.size w2 W3 := by rw [hW3]; exact (Below.refl _ _).alloc (Nat.le_refl _) _
        have b03 := b2.trans (b3.mono b2.size)
        obtain ⟨y1, y2, y3⟩ := BX.out W3 b03
        clear hW3 CS CRt CO
        go_wp2_with (fail)
        refine (bays_any K M B W3).mono ?_
        rintro e w4 ⟨v4, rfl, o4, b4⟩
        obtain ⟨x4, c4, hf4⟩ := o4.reads.form
        rw [show ([gHead K M B 0, gHead K M B 1].map (Value.int .i64)).length = 2 from rfl] at hf4
        subst hf4
        have b04 := b03.trans (b4.mono b03.size)
        have HB4 : Hid (Below w1.heap.size w1 w4) := Lib.hid (HB0.out.trans (b04.mono HB0.out.size))
        have HO4 := Lib.hid o4
        obtain ⟨g4, cap4, hv4, _, hg4l⟩ := o4.form (by simp)
        injection hv4 with z1 z2 z3
        subst z1
        have hcell : Hid (∀ W j, j < 2 → Below w4.heap.size w4 W → W.cell? ⟨g4, j, none⟩ = some (.int .i64 (bayA K M B j))) := Lib.hid fun W j hj hW => by
          rw [hW.cell (p := ⟨g4, j, none⟩) hg4l, o4.cell (by simpa using hj)]
          rcases (by omega : j = 0 ∨ j = 1) with rfl | rfl <;> rfl
        have HBX : Hid (∀ W, Below w4.heap.size w4 W → W.cell? ⟨p, 0, none⟩ = some (.int .i64 K) ∧ W.cell? ⟨p, 1, none⟩ = some (.int .i64 M) ∧ W.cell? ⟨p, 2, none⟩ = some (.int .i64 B)) := Lib.hid fun W hW => BX.out W (b04.trans (hW.mono b04.size))
        clear y1 y2 y3 o4 b4 b04 b03 b3 b2 BX HB0 z2 z3 HO4
        go_wp2_with (fail)
        go_loopw [10, 11, 12, 13, 34] (fun _ _ _ _ t wr => ∃ i : Nat, i ≤ 2 ∧ t = .int .i64 (i : Int) ∧ Hid ((∀ j, j < i → (lkM n R id K M B slot (bayA K M B j)).2.2 = true) ∧ Below w4.heap.size w4 wr)) (fun _ _ _ _ t _ => 2 - (RowKit.intOf t).toNat)
        case atStart => exact ⟨0, by omega, rfl, Lib.hid ⟨fun j hj => absurd hj (Nat.not_lt_zero _), Below.refl _ _⟩⟩
        case round =>
          obtain ⟨i, hi, rfl, hH⟩ := hrel
          rename World => wr
          by_cases hlt : i < 2
          · have y1 : (i : Int) < 2 := by omega
            have hc := hcell.out wr i hlt hH.out.2
            obtain ⟨k1, k2, k3⟩ := HBX.out wr hH.out.2
            have cl := CLA.out wr i hlt (HB4.out.trans (hH.out.2.mono HB4.out.size))
            obtain ⟨Z, hZ⟩ : ∃ Z, lkM n R id K M B slot (bayA K M B i) = Z := ⟨_, rfl⟩
            rw [hZ] at cl
            obtain ⟨zs, zb, zo⟩ := Z
            have HZ := Lib.hid hZ
            clear hZ
            by_cases hzo : zo = true
            · subst hzo
              go_wp2_with (fail)
              refine cl.mono ?_
              rintro e w5 ⟨v5, rfl, o5, b5⟩
              have HN : Hid ((∀ j, j < i + 1 → (lkM n R id K M B slot (bayA K M B j)).2.2 = true) ∧ Below w4.heap.size w4 w5) := Lib.hid ⟨fun j hj => by
                rcases (by omega : j < i ∨ j = i) with z | z
                · exact hH.out.1 j z
                · rw [z, HZ.out], hH.out.2.trans (b5.mono hH.out.2.size)⟩
              clear cl o5 b5 hH hc k1 k2 k3
              go_wp2_with (fail)
              go_roundw
              case rel => exact ⟨i + 1, by omega, by go_num, HN.out⟩
              case measure => simp [RowKit.intOf]; omega
            · rw [Bool.not_eq_true] at hzo
              subst hzo
              have HXX : Hid (X = false) := Lib.hid (by
                rw [← HX.out]
                refine decide_eq_false fun z => ?_
                have hz := HZ.out
                rcases (by omega : i = 0 ∨ i = 1) with rfl | rfl
                · have := z.2.2.2.1; rw [← hA0, hz] at this; cases this
                · have := z.2.2.2.2; rw [← hA1, hz] at this; cases this)
              go_wp2_with (fail)
              refine cl.mono ?_
              rintro e w5 ⟨v5, rfl, o5, b5⟩
              have hfin := Lib.hid (HB4.out.trans ((hH.out.2.trans (b5.mono hH.out.2.size)).mono HB4.out.size))
              clear cl o5 b5 hH hc k1 k2 k3
              go_wp2_with (fail)
              go_ret
              rw [HXX.out]
              exact ⟨rfl, hfin.out⟩
          · obtain rfl : i = 2 := by omega
            have HXX : Hid (X = true) := Lib.hid (by
              rw [← HX.out]
              exact decide_eq_true ⟨HGG.out.1, HGG.out.2.1, HGG.out.2.2, hH.out.1 0 (by omega), hH.out.1 1 (by omega)⟩)
            have hfin := Lib.hid (HB4.out.trans (hH.out.2.mono HB4.out.size))
            have y1 : ¬ ((2 : Int) < 2) := by omega
            clear hH hlt
            simp only [show ((2 : Nat) : Int) = 2 from rfl]
            go_wp2_with (fail)
            go_ret
            rw [HXX.out]
            exact ⟨rfl, hfin.out⟩
      · have HXX : Hid (X = false) := Lib.hid (by rw [← HX.out]; exact decide_eq_false fun z => hri z.2.2.1)
        rw [Bool.not_eq_true] at hri
        rw [hri] at CRt
        clear HX hfit hoff hri hg01
        go_enter Tryz.func32, Tryz.ntmps32
        go_wp2_with (fail)
        rw [show w1.alloc (.cells #[.int .i64 K, .int .i64 M, .int .i64 B] 23) = W0 from hW0.symm]
        clear hW0 hp
        refine cF.mono ?_
        rintro e w2 ⟨rfl, b2⟩
        clear cF y1 y2 y3
        go_wp2_with (fail)
        refine (CO.out w2 (HB0.out.trans (b2.mono HB0.out.size))).mono ?_
        rintro e w2' ⟨rfl, rfl⟩
        go_wp2_with (fail)
        refine (CS.out (w2.alloc (.cells #[.int .i64 slot] 3)) ((HB0.out.trans (b2.mono HB0.out.size)).alloc (HB0.out.trans (b2.mono HB0.out.size)).size _)).mono ?_
        rintro e w2' ⟨rfl, rfl⟩
        go_wp2_with (fail)
        refine (CRt.out w2 (HB0.out.trans (b2.mono HB0.out.size))).mono ?_
        rintro e w2' ⟨rfl, rfl⟩
        have hfin := Lib.hid ((HB0.out.trans (b2.mono HB0.out.size)).alloc (HB0.out.trans (b2.mono HB0.out.size)).size (.cells #[.int .i64 slot] 3))
        clear b2 CS CRt CO
        go_wp2_with (fail)
        go_ret
        rw [HXX.out]
        exact ⟨rfl, hfin.out⟩
  · have HXX : Hid (X = false) := Lib.hid (by rw [← HX.out]; exact decide_eq_false fun z => hfit z.1)
    rw [Bool.not_eq_true] at hfit
    rw [hfit] at cF
    clear HX hfit
    go_enter Tryz.func32, Tryz.ntmps32
    go_wp2_with (fail)
    rw [show w1.alloc (.cells #[.int .i64 K, .int .i64 M, .int .i64 B] 23) = W0 from hW0.symm]
    clear hW0 hp
    refine cF.mono ?_
    rintro e w2 ⟨rfl, b2⟩
    have hfin := Lib.hid (HB0.out.trans (b2.mono HB0.out.size))
    clear b2 cF
    go_wp2_with (fail)
    go_ret
    rw [HXX.out]
    exact ⟨rfl, hfin.out⟩
end
end Go.Proofs.YtfadglcpapiklaaGreatDoor
