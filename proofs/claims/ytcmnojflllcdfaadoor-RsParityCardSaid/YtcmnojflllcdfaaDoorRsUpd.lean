/- rs: Update. -/
import Derived.Test.YtcmnojflllcdfaaDoorRsDecode
namespace Go.Proofs.YtcmnojflllcdfaaDoor
open Go.RowKit
set_option linter.unusedVariables false
set_option linter.unusedSimpArgs false

def updB (k i : Int) (parity : List ByteArray) (was now : ByteArray) : Bool :=
  fits8 k && (decide (0 ≤ i) && (decide (i < k) && (fits8 (parity.length : Int) && (alikeL parity && alikeL [parity.getD 0 ⟨#[]⟩, was, now]))))
def updF (k i : Nat) (parity : List ByteArray) (was now : ByteArray) (a : Nat) : ByteArray :=
  mulAdd (parity.getD a ⟨#[]⟩) (bt ((mkM (cyEl parity.length) parity.length k).getD a ⟨#[]⟩) i) (mulAdd was 1 now)
def updL (k i : Int) (parity : List ByteArray) (was now : ByteArray) : List ByteArray := if updB k i parity was now then (List.range parity.length).map (updF k.toNat i.toNat parity was now) else []
def updE (k i : Int) (parity : List ByteArray) (was now : ByteArray) : Int := if updB k i parity was now then 0 else 30
theorem upd_bad (w : World) (k i : Int) (parity : List ByteArray) (was now : ByteArray) (h : Hid (updB k i parity was now = false)) (W : World) (hb : Below w.heap.size w W) : GivesL w (updL k i parity was now) (updE k i parity was now) (.returned (.tuple #[.slice none 0 0, .int .i64 30])) W :=
  ⟨.slice none 0 0, by rw [updE, h.out]; rfl, by rw [updL, h.out]; exact Own.nil _ _ _, hb⟩
set_option maxRecDepth 100000 in
set_option maxHeartbeats 4000000 in
theorem update_any (k i : Int) (vp : Value) (parity : List ByteArray) (was now : ByteArray) (w : World) (ht : Tabs w) (hP : Reads w vp (tx parity)) (fp : Fits parity) (fw : was.size ≤ 140737488351232) (fn : now.size ≤ 140737488351232) (h1 : -9223372036854775808 ≤ k) (h2 : k ≤ 9223372036854775807) (h3 : -9223372036854775808 ≤ i) (h4 : i ≤ 9223372036854775807) :
    Calls Tryd.prog 16 #[.int .i64 k, .int .i64 i, vp, .string was, .string now] w (GivesL w (updL k i parity was now) (updE k i parity was now)) := by
  have fpn := fp.n
  have lp := fun W => hP.len_run (P := Tryd.prog) Tryd.underlying22 3 W
  rw [List.length_map] at lp
  have c1 := fun W => rsfits_any k W
  have c4 := fun W => rsfits_any (parity.length : Int) W
  have c5 := alike_any vp parity w hP fp
  cases e0 : fits8 k with
  | false =>
    have hz : Hid (updB k i parity was now = false) := Lib.hid (by simp only [updB, e0, Bool.true_and, Bool.false_and])
    rw [e0] at c1
    clear e0
    go_enter Tryd.func16, Tryd.ntmps16
    go_wp2_with (fail)
    refine (c1 _).mono ?_
    rintro e wq ⟨rfl, rfl⟩
    go_wp2_with (fail)
    go_ret2
    exact upd_bad w k i parity was now hz _ (Below.refl _ _)
  | true =>
    cases e1 : decide (0 ≤ i) with
    | false =>
      have hz : Hid (updB k i parity was now = false) := Lib.hid (by simp only [updB, e0, e1, Bool.true_and, Bool.false_and])
      rw [e0] at c1
      have d1 : decide (i < 0) = true := by rw [decide_eq_true_eq]; simp at e1; omega
      clear e0 e1
      go_enter Tryd.func16, Tryd.ntmps16
      go_wp2_with (fail)
      refine (c1 _).mono ?_
      rintro e wq ⟨rfl, rfl⟩
      go_wp2_with (fail)
      go_ret2
      exact upd_bad w k i parity was now hz _ (Below.refl _ _)
    | true =>
      cases e2 : decide (i < k) with
      | false =>
        have hz : Hid (updB k i parity was now = false) := Lib.hid (by simp only [updB, e0, e1, e2, Bool.true_and, Bool.false_and])
        rw [e0] at c1
        have d1 : decide (i < 0) = false := by rw [decide_eq_false_iff_not]; simp at e1; omega
        have d2 : decide (k ≤ i) = true := by rw [decide_eq_true_eq]; simp at e2; omega
        clear e0 e1 e2
        go_enter Tryd.func16, Tryd.ntmps16
        go_wp2_with (fail)
        refine (c1 _).mono ?_
        rintro e wq ⟨rfl, rfl⟩
        go_wp2_with (fail)
        go_ret2
        exact upd_bad w k i parity was now hz _ (Below.refl _ _)
      | true =>
        cases e3 : fits8 (parity.length : Int) with
        | false =>
          have hz : Hid (updB k i parity was now = false) := Lib.hid (by simp only [updB, e0, e1, e2, e3, Bool.true_and, Bool.false_and])
          rw [e0] at c1
          rw [e3] at c4
          have d1 : decide (i < 0) = false := by rw [decide_eq_false_iff_not]; simp at e1; omega
          have d2 : decide (k ≤ i) = false := by rw [decide_eq_false_iff_not]; simp at e2; omega
          clear e0 e1 e2 e3
          go_enter Tryd.func16, Tryd.ntmps16
          go_wp2_with (fail)
          refine (c1 _).mono ?_
          rintro e wq ⟨rfl, rfl⟩
          go_wp2_with (fail)
          refine (c4 _).mono ?_
          rintro e wq ⟨rfl, rfl⟩
          go_wp2_with (fail)
          go_ret2
          exact upd_bad w k i parity was now hz _ (Below.refl _ _)
        | true =>
          cases e4 : alikeL parity with
          | false =>
            have hz : Hid (updB k i parity was now = false) := Lib.hid (by simp only [updB, e0, e1, e2, e3, e4, Bool.true_and, Bool.false_and])
            rw [e0] at c1
            rw [e3] at c4
            rw [e4] at c5
            have d1 : decide (i < 0) = false := by rw [decide_eq_false_iff_not]; simp at e1; omega
            have d2 : decide (k ≤ i) = false := by rw [decide_eq_false_iff_not]; simp at e2; omega
            clear e0 e1 e2 e3 e4
            go_enter Tryd.func16, Tryd.ntmps16
            go_wp2_with (fail)
            refine (c1 _).mono ?_
            rintro e wq ⟨rfl, rfl⟩
            go_wp2_with (fail)
            refine (c4 _).mono ?_
            rintro e wq ⟨rfl, rfl⟩
            go_wp2_with (fail)
            refine (c5).mono ?_
            rintro e wq ⟨rfl, rfl⟩
            go_wp2_with (fail)
            go_ret2
            exact upd_bad w k i parity was now hz _ (Below.refl _ _)
          | true =>
            have hk := e0
            simp only [fits8, decide_eq_true_eq] at hk
            have hm := e3
            simp only [fits8, decide_eq_true_eq] at hm
            have hi0 : 0 ≤ i := by simpa using e1
            have hik : i < k := by simpa using e2
            obtain ⟨K, rfl⟩ := Int.eq_ofNat_of_zero_le (show 0 ≤ k by omega)
            obtain ⟨I, rfl⟩ := Int.eq_ofNat_of_zero_le hi0
            rcases hP.srow with ⟨_, rfl⟩ | ⟨b, off, cap, rfl, hS⟩
            · simp at hm
            have hc0 := hS.cell 0 (by omega)
            rw [Nat.add_zero] at hc0
            have f3 : Fits [parity.getD 0 ⟨#[]⟩, was, now] := ⟨by simp, fun a ha => by
              have hp0 := fp.m 0 (by omega)
              match a, ha with
              | 0, _ => exact hp0
              | 1, _ => show was.size ≤ _; omega
              | 2, _ => show now.size ≤ _; omega⟩
            have bA := fun o => (Below.refl w.heap.size w).alloc (Nat.le_refl _) o
            have c6 := alike_any (.slice (some ⟨w.heap.size, 0, none⟩) 3 3) [parity.getD 0 ⟨#[]⟩, was, now] _ (Reads.lit w 9 (tx [parity.getD 0 ⟨#[]⟩, was, now]) 3) f3
            cases e5 : alikeL [parity.getD 0 ⟨#[]⟩, was, now] with
            | false =>
              have hz : Hid (updB (K : Int) (I : Int) parity was now = false) := Lib.hid (by simp only [updB, e0, e1, e2, e3, e4, e5, Bool.true_and])
              rw [e5] at c6
              rw [e0] at c1
              rw [e3] at c4
              rw [e4] at c5
              have d1 : decide ((I : Int) < 0) = false := by rw [decide_eq_false_iff_not]; omega
              have d2 : decide (K ≤ I) = false := by rw [decide_eq_false_iff_not]; omega
              clear e0 e1 e2 e3 e4 e5 f3
              generalize parity.getD 0 ⟨#[]⟩ = p0 at *
              go_enter Tryd.func16, Tryd.ntmps16
              go_wp2_with (fail)
              refine (c1 _).mono ?_
              rintro e wq ⟨rfl, rfl⟩
              go_wp2_with (fail)
              refine (c4 _).mono ?_
              rintro e wq ⟨rfl, rfl⟩
              go_wp2_with (fail)
              refine (c5).mono ?_
              rintro e wq ⟨rfl, rfl⟩
              go_wp2_with (fail)
              refine c6.mono ?_
              rintro e wq ⟨rfl, rfl⟩
              go_wp2_with (fail)
              go_ret2
              exact upd_bad w (K : Int) (I : Int) parity was now hz _ (bA _)
            | true =>
              have hz : Hid (updB (K : Int) (I : Int) parity was now = true) := Lib.hid (by simp only [updB, e0, e1, e2, e3, e4, e5, Bool.true_and])
              obtain ⟨i0, hi, hz0, hz1, hz2⟩ := info_parts Tryd.infoS
              have hal := alike_facts e4
              have hal3 := alike_facts e5
              have hws : was.size = (parity.getD 0 ⟨#[]⟩).size := (hal3 1 (by simp)).1
              have hns : now.size = (parity.getD 0 ⟨#[]⟩).size := (hal3 2 (by simp)).1
              have hp4 : (parity.getD 0 ⟨#[]⟩).size ≤ 4096 := (hal 0 (by omega)).2.2
              have hfL : Hid (updL (K : Int) (I : Int) parity was now = (List.range parity.length).map (updF K I parity was now)) := Lib.hid (by rw [updL, if_pos hz.out, show ((K : Int)).toNat = K by omega, show ((I : Int)).toNat = I by omega])
              have hcy := fun W hW => cauchy_any (K : Int) (parity.length : Int) W hW
              have hfk : fitsB (K : Int) = true := by simp [fitsB]; omega
              have hfm : fitsB (parity.length : Int) = true := by simp [fitsB]; omega
              rw [cyL, cyE, hfk, hfm, show ((parity.length : Int)).toNat = parity.length by omega, show ((K : Int)).toNat = K by omega] at hcy
              simp only [Bool.and_self, if_true] at hcy
              have rC := mkM_rect (cyEl parity.length) parity.length K
              have hsF : ∀ a, a < parity.length → updF K I parity was now a = mulAdd (parity.getD a ⟨#[]⟩) (bt ((mkM (cyEl parity.length) parity.length K).getD a ⟨#[]⟩) I) (mulAdd was 1 now) := fun _ _ => rfl
              have hsF' := Lib.hid hsF
              have hmk := fun W => Own.make_run (P := Tryd.prog) (T := 22) Tryd.underlying22 hi hz0 hz1 hz2 rfl W parity.length (by omega) (by omega)
              have hch := fun W hW => muladd_any was now 1 W hW (by omega) (by omega) (by unfold maxLen; omega) (by unfold maxLen; omega)
              rw [show (1 : Int).toNat = 1 from rfl] at hch
              have hcs : (mulAdd was 1 now).size ≤ 4096 := by rw [mulAdd_size, hws]; exact hp4
              have hps := Lib.hid (fun a (ha : a < parity.length) => (hal a ha).2.2)
              rw [e5] at c6
              rw [e0] at c1
              rw [e3] at c4
              rw [e4] at c5
              have d1 : decide ((I : Int) < 0) = false := by rw [decide_eq_false_iff_not]; omega
              have d2 : decide (K ≤ I) = false := by rw [decide_eq_false_iff_not]; omega
              have hIK : I < K := by omega
              have lC := Lib.hid rC.l
              have sC := Lib.hid rC.s
              clear e0 e1 e2 e3 e4 e5 f3 hal hal3 hws hns hfk hfm hsF rC
              generalize mulAdd was 1 now = ch at *
              generalize updF K I parity was now = F at *
              generalize mkM (cyEl parity.length) parity.length K = C at *
              generalize hp0 : parity.getD 0 ⟨#[]⟩ = p0 at *
              clear hp0
              go_enter Tryd.func16, Tryd.ntmps16
              go_wp2_with (fail)
              refine (c1 _).mono ?_
              rintro e wq ⟨rfl, rfl⟩
              go_wp2_with (fail)
              refine (c4 _).mono ?_
              rintro e wq ⟨rfl, rfl⟩
              go_wp2_with (fail)
              refine (c5).mono ?_
              rintro e wq ⟨rfl, rfl⟩
              go_wp2_with (fail)
              refine c6.mono ?_
              rintro e wq ⟨rfl, rfl⟩
              have t0 := ht.alloc (.cells (tx [p0, was, now]).toArray 9)
              go_wp2_with (fail)
              refine (hcy _ t0).mono ?_
              rintro e w1 ⟨v1, rfl, o1, b1⟩
              have b1' := (bA _).trans (b1.mono (by simp))
              have t1 := ht.below b1' ht.two
              obtain ⟨gC, capC, hv1, hg1, hg2⟩ := o1.form (by rw [List.length_map, lC.out]; omega)
              rw [List.length_map] at hv1
              subst hv1
              go_wp2_with (fail)
              refine (hch _ t1).mono ?_
              rintro e w2 ⟨rfl, b2⟩
              have t2 := t1.below b2 t1.two
              have bw2 := below_c b1' b2
              obtain ⟨w3, hmk3, o3, b3⟩ := hmk w2
              have hlt3 := o3.lt
              go_wp2_with (fail)
              go_loopw [16, 17, 69] (fun _ _ i wr => ∃ a : Nat, a ≤ parity.length ∧ i = .int .i64 (a : Int) ∧ Own wr w2.heap.size 9 (.slice (some ⟨w2.heap.size, 0, none⟩) parity.length parity.length) (tx (linesTo F parity.length a)) ∧ Below w2.heap.size w2 wr) (fun _ _ i _ => parity.length - (intOf i).toNat)
              case atStart => exact ⟨0, by omega, rfl, by rw [linesTo_zero]; exact o3, b3⟩
              case round =>
                obtain ⟨a, ha, rfl, hown, hbel⟩ := hrel
                by_cases hlt : a < parity.length
                · have g1 : (a : Int) < (parity.length : Int) := by omega
                  have bwr := below_c bw2 hbel
                  have ca := (hS.below bwr).cell a hlt
                  have cc := ((o1.after b2).after hbel).cell (i := a) (by rw [List.length_map, lC.out]; omega)
                  rw [tx_getD _ (by rw [lC.out]; omega)] at cc
                  have g2 : (a : Int) < (C.length : Int) := by rw [lC.out]; exact g1
                  have sCa := sC.out a hlt
                  have g3 : I < (C.getD a ⟨#[]⟩).size := by omega
                  have g4 : (I : Int) < ((C.getD a ⟨#[]⟩).size : Int) := by omega
                  have hnx := Lib.hid (linesTo_succ F hlt)
                  have hkl : a < (tx (linesTo F parity.length a)).length := by rw [List.length_map, linesTo_length _ ha]; exact hlt
                  have hFa := hsF'.out a hlt
                  have hbl := bt_lt (C.getD a ⟨#[]⟩) I
                  have hpa := hps.out a hlt
                  have hma := fun W hW => muladd_any (parity.getD a ⟨#[]⟩) ch (((C.getD a ⟨#[]⟩)[I].toNat : Nat) : Int) W hW (by omega) (by rw [bt_get g3]; omega) (by unfold maxLen; omega) (by unfold maxLen; omega)
                  rw [show ((((C.getD a ⟨#[]⟩)[I].toNat : Nat) : Int)).toNat = bt (C.getD a ⟨#[]⟩) I by rw [bt_get g3]; omega, ← hFa] at hma
                  have tr : Tabs wr := t2.below hbel t2.two
                  clear hFa sCa hbl hpa
                  generalize parity.getD a ⟨#[]⟩ = pa at *
                  generalize C.getD a ⟨#[]⟩ = Ca at *
                  go_wp2_with (fail)
                  refine (hma _ tr).mono ?_
                  rintro e w7 ⟨rfl, b7⟩
                  have o7 := hown.after b7
                  have hf7 := o7.frozen a
                  have hc7 := o7.cell (i := a) hkl
                  go_wp2_with (fail)
                  go_roundw
                  case rel => exact ⟨a + 1, by omega, by go_num, by rw [hnx.out]; exact o7.set a _, (hbel.trans (b7.mono hbel.size)).setCell (Nat.le_refl _) _⟩
                  case measure => simp [intOf]; omega
                · have e : a = parity.length := by omega
                  subst e
                  rw [linesTo_all] at hown
                  go_wp2_with (fail)
                  go_ret2
                  exact ⟨.slice (some ⟨w2.heap.size, 0, none⟩) parity.length parity.length, by rw [updE, if_pos hz.out]; rfl, by rw [hfL.out]; exact hown.mono bw2.size, below_c bw2 hbel⟩
end Go.Proofs.YtcmnojflllcdfaaDoor
