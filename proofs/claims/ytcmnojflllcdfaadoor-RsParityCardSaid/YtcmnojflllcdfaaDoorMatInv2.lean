/- mat: Inverse. -/
import Derived.Test.YtcmnojflllcdfaaDoorMatInv
import Derived.BigRegion
namespace Go.Proofs.YtcmnojflllcdfaaDoor
open Go.RowKit
set_option linter.unusedVariables false
set_option linter.unusedSimpArgs false

def swapL (l : List ByteArray) (i j : Nat) : List ByteArray := (l.set i (l.getD j ⟨#[]⟩)).set j (l.getD i ⟨#[]⟩)
theorem swapL_length (l : List ByteArray) (i j : Nat) : (swapL l i j).length = l.length := by simp [swapL]
theorem swapL_get (l : List ByteArray) {i j k : Nat} (hi : i < l.length) (hj : j < l.length) : (swapL l i j).getD k ⟨#[]⟩ = l.getD (Mx.swp i j k) ⟨#[]⟩ := by
  unfold swapL Mx.swp
  simp only [List.getD_eq_getElem?_getD, List.getElem?_set, List.length_set]
  by_cases h2 : j = k
  · subst h2
    rw [if_pos rfl, if_pos hj]
    by_cases h1 : j = i
    · subst h1; rw [if_pos rfl]; rfl
    · rw [if_neg h1, if_pos rfl]; rfl
  · rw [if_neg h2]
    by_cases h1 : i = k
    · subst h1; rw [if_pos rfl, if_pos hi, if_pos rfl]; rfl
    · rw [if_neg h1, if_neg (Ne.symm h1), if_neg (Ne.symm h2)]
/-- Column by column, from one on. -/
def gj : Nat → Nat → List ByteArray → Option (List ByteArray)
  | 0, _, l => some l
  | f + 1, c, l => if pvt l c (l.length - c) c = l.length then none else gj f (c + 1) (redL (swapL l c (pvt l c (l.length - c) c)) c)
def stL (a : List ByteArray) : List ByteArray := (List.range a.length).map fun i => a.getD i ⟨#[]⟩ ++ (mkM idEl a.length a.length).getD i ⟨#[]⟩
def halfL (n : Nat) (l : List ByteArray) : List ByteArray := l.map fun r => r.extract n r.size
def sqB (a : List ByteArray) : Bool := mR a && ((a.getD 0 ⟨#[]⟩).size == a.length)
def invL (a : List ByteArray) : List ByteArray := if sqB a then (match gj a.length 0 (stL a) with | some l => halfL a.length l | none => []) else []
def invE (a : List ByteArray) : Int := if sqB a then (match gj a.length 0 (stL a) with | some _ => 0 | none => 21) else 20
theorem sqB_facts {l : List ByteArray} (h : sqB l = true) : mR l = true ∧ 1 ≤ l.length ∧ l.length ≤ 16 ∧ ∀ i, i < l.length → (l.getD i ⟨#[]⟩).size = l.length := by
  unfold sqB at h
  rw [Bool.and_eq_true] at h
  obtain ⟨h1, h2⟩ := h
  obtain ⟨k1, k2, k3, k4, k5⟩ := mR_facts h1
  have h2' : (l.getD 0 ⟨#[]⟩).size = l.length := by simpa using h2
  exact ⟨h1, k1, k2, fun i hi => by rw [k5 i hi, h2']⟩
theorem mkM_length (el : Nat → Nat → UInt8) (m n : Nat) : (mkM el m n).length = m := by simp [mkM]
theorem mkM_get (el : Nat → Nat → UInt8) {m n i : Nat} (h : i < m) : (mkM el m n).getD i ⟨#[]⟩ = lineOf ((List.range n).map (el i)) := by
  simp [mkM, List.getD_eq_getElem?_getD, h]
theorem mkM_size (el : Nat → Nat → UInt8) {m n i : Nat} (h : i < m) : ((mkM el m n).getD i ⟨#[]⟩).size = n := by
  rw [mkM_get el h]; show (lineOf _).data.size = n; simp [lineOf]
theorem app_size (a b : ByteArray) : (a ++ b).size = a.size + b.size := ByteArray.size_append
theorem swapL_tx (l : List ByteArray) (i j : Nat) : tx (swapL l i j) = ((tx l).set i (.string (l.getD j ⟨#[]⟩))).set j (.string (l.getD i ⟨#[]⟩)) := by
  rw [swapL, tx, List.map_set, List.map_set]
theorem redL_length (l : List ByteArray) (c : Nat) : (redL l c).length = l.length := by simp [redL]
theorem redL_get (l : List ByteArray) {c i : Nat} (hi : i < l.length) : (redL l c).getD i ⟨#[]⟩ = if i = c then ownRow l c else redRow (ownRow l c) c (l.getD i ⟨#[]⟩) := by
  simp only [redL, List.getD_eq_getElem?_getD, List.getElem?_set, List.length_map, List.getElem?_map, List.getElem?_eq_getElem hi]
  by_cases h : c = i
  · subst h; rw [if_pos rfl, if_pos hi, if_pos rfl]; rfl
  · rw [if_neg h, if_neg (Ne.symm h)]; rfl
theorem redL_size (l : List ByteArray) {c i L : Nat} (hc : c < l.length) (hi : i < l.length) (h : ∀ j, j < l.length → (l.getD j ⟨#[]⟩).size = L) : ((redL l c).getD i ⟨#[]⟩).size = L := by
  rw [redL_get l hi]
  split
  · rw [ownRow, mulAdd_size, zrow_size]; exact h c hc
  · rw [redRow, mulAdd_size]; exact h i hi
theorem swp_lt' {a b i n : Nat} (ha : a < n) (hb : b < n) (hi : i < n) : Mx.swp a b i < n := Mx.swp_lt ha hb hi
def halfTo (n : Nat) (l : List ByteArray) (k : Nat) : List ByteArray := (l.take k).map (fun r => r.extract n r.size) ++ l.drop k
theorem halfTo_length (n : Nat) (l : List ByteArray) (k : Nat) : (halfTo n l k).length = l.length := by simp [halfTo]; omega
theorem halfTo_zero (n : Nat) (l : List ByteArray) : halfTo n l 0 = l := by simp [halfTo]
theorem halfTo_all (n : Nat) (l : List ByteArray) : halfTo n l l.length = halfL n l := by simp [halfTo, halfL]
theorem halfTo_at (n : Nat) (l : List ByteArray) (k : Nat) : (halfTo n l k).getD k ⟨#[]⟩ = l.getD k ⟨#[]⟩ := by
  simp only [halfTo, List.getD_eq_getElem?_getD]
  rw [List.getElem?_append]
  split
  · rename_i h
    rw [List.length_map, List.length_take] at h
    omega
  · rename_i h
    rw [List.length_map, List.length_take] at h
    rw [List.length_map, List.length_take, List.getElem?_drop]
    rcases Nat.lt_or_ge k l.length with h1 | h1
    · congr 2; omega
    · rw [List.getElem?_eq_none (by omega), List.getElem?_eq_none h1]
theorem halfTo_succ (n : Nat) (l : List ByteArray) {k : Nat} (h : k < l.length) : tx (halfTo n l (k + 1)) = (tx (halfTo n l k)).set k (.string ((l.getD k ⟨#[]⟩).extract n (l.getD k ⟨#[]⟩).size)) := by
  have e : halfTo n l (k + 1) = (halfTo n l k).set k ((l.getD k ⟨#[]⟩).extract n (l.getD k ⟨#[]⟩).size) := by
    apply List.ext_getElem
    · rw [List.length_set, halfTo_length, halfTo_length]
    · intro j h1 h2
      rw [halfTo_length] at h1
      rw [List.getElem_set]
      simp only [halfTo, List.getElem_append, List.length_map, List.length_take, List.getElem_map, List.getElem_take, List.getElem_drop]
      by_cases e : k = j
      · subst e; rw [if_pos rfl, dif_pos (by omega), List.getD_eq_getElem?_getD, List.getElem?_eq_getElem h]; rfl
      · rw [if_neg e]
        by_cases e2 : j < k
        · rw [dif_pos (by omega), dif_pos (by omega)]
        · rw [dif_neg (by omega), dif_neg (by omega)]
          congr 1; omega
  rw [e, tx, List.map_set]
theorem inv_bad (w : World) (a : List ByteArray) (h : Hid (sqB a = false)) (W : World) (hb : Below w.heap.size w W) : GivesL w (invL a) (invE a) (.returned (.tuple #[.slice none 0 0, .int .i64 20])) W :=
  ⟨.slice none 0 0, by rw [invE, h.out]; rfl, by rw [invL, h.out]; exact Own.nil _ _ _, hb⟩
set_option maxRecDepth 100000 in
set_option maxHeartbeats 2000000 in
theorem inverse_any (va : Value) (a : List ByteArray) (w : World) (ht : Tabs w) (hA : Reads w va (tx a)) (fa : Fits a) :
    Calls Tryd.prog 34 #[va] w (GivesL w (invL a) (invE a)) := by
  have ra := right_r va a w hA fa
  cases h1 : mR a with
  | false =>
    have hz : Hid (sqB a = false) := Lib.hid (by simp [sqB, h1])
    rw [h1] at ra
    clear h1
    go_enter Tryd.func34, Tryd.ntmps34
    go_wp2_with (go_at_call 44; ((with_reducible refine ra.mono ?_); rintro e w' ⟨rfl, rfl⟩))
    go_ret2
    exact inv_bad w a hz _ (Below.refl _ _)
  | true =>
    obtain ⟨k1, k2, k3, k4, k5⟩ := mR_facts h1
    rw [h1] at ra
    rcases hA.srow with ⟨_, rfl⟩ | ⟨ba, oa, ca, rfl, hSa⟩
    · simp at k1
    have hc0 := hSa.cell 0 (by omega)
    rw [Nat.add_zero] at hc0
    obtain ⟨s0, hs0⟩ : ∃ r, a.getD 0 ⟨#[]⟩ = r := ⟨_, rfl⟩
    cases h2 : (s0.size == a.length) with
    | false =>
      have hz : Hid (sqB a = false) := Lib.hid (by rw [sqB, hs0, h2]; simp)
      have t3 : (((s0.size : Nat) : Int) != ((a.length : Nat) : Int)) = true := by rw [bne_iff_ne]; rw [beq_eq_false_iff_ne] at h2; omega
      rw [hs0] at hc0
      clear h1 h2 hs0 k5
      go_enter Tryd.func34, Tryd.ntmps34
      go_wp2_with (go_at_call 44; ((with_reducible refine ra.mono ?_); rintro e w' ⟨rfl, rfl⟩))
      go_ret2
      exact inv_bad w a hz _ (Below.refl _ _)
    | true =>
      have hz : Hid (sqB a = true) := Lib.hid (by rw [sqB, hs0, h2, h1]; rfl)
      have hsz : Hid (∀ i, i < a.length → (a.getD i ⟨#[]⟩).size = a.length) := Lib.hid (sqB_facts hz.out).2.2.2
      have t3 : (((s0.size : Nat) : Int) != ((a.length : Nat) : Int)) = false := by rw [beq_iff_eq] at h2; rw [h2]; exact bne_self_eq_false _
      rw [hs0] at hc0
      have hidn := identity_any (a.length : Int) w
      rw [idL, idE, if_pos (by simp [fitsB]; omega), if_pos (by simp [fitsB]; omega), show ((a.length : Int)).toNat = a.length by omega] at hidn
      clear h1 h2 hs0 k5
      obtain ⟨i0, hi, hz0, hz1, hz2⟩ := info_parts Tryd.infoS
      have hmk := fun W => Own.make_run (P := Tryd.prog) (T := 22) Tryd.underlying22 hi hz0 hz1 hz2 rfl W a.length (by omega) (by omega)
      go_enter Tryd.func34, Tryd.ntmps34
      go_wp2_with (first
        | (go_at_call 44; ((with_reducible refine ra.mono ?_); rintro e w' ⟨rfl, rfl⟩))
        | (go_at_call 49; ((with_reducible refine hidn.mono ?_); rintro e w1 ⟨v, rfl, hou, hb1⟩; obtain ⟨gu, cu, hvu, hgu1, hgu2⟩ := hou.form (by rw [List.length_map, mkM_length]; omega); subst hvu; rw [List.length_map, mkM_length] at *; obtain ⟨w2, hmk2, how, hbw⟩ := hmk w1; clear hmk)))
      have hgl := how.lt
      have hb2 : Below w.heap.size w w2 := hb1.trans (hbw.mono hb1.size)
      have hou2 := hou.after hbw
      have hz8 := hb1.size
      go_loopw [8, 34] (fun _ i wr => ∃ k : Nat, k ≤ a.length ∧ i = .int .i64 (k : Int) ∧ Own wr w1.heap.size 9 (.slice (some ⟨w1.heap.size, 0, none⟩) a.length a.length) (tx (linesTo (fun i => a.getD i ⟨#[]⟩ ++ (mkM idEl a.length a.length).getD i ⟨#[]⟩) a.length k)) ∧ Below w1.heap.size w1 wr) (fun _ i _ => a.length - (intOf i).toNat)
      case atStart => exact ⟨0, by omega, rfl, by rw [linesTo_zero]; exact how, hbw⟩
      case round =>
        obtain ⟨k, hk, rfl, hown, hbel⟩ := hrel
        by_cases hlt : k < a.length
        · have hbelw : Below w.heap.size w wr := hb1.trans (hbel.mono hz8)
          have hca := (hSa.below hbelw).cell k hlt
          have hcu := (hou.after hbel).cell (i := k) (by rw [List.length_map, mkM_length]; exact hlt)
          rw [tx_getD _ (by rw [mkM_length]; exact hlt)] at hcu
          have hnx := Lib.hid (linesTo_succ (fun i => a.getD i ⟨#[]⟩ ++ (mkM idEl a.length a.length).getD i ⟨#[]⟩) hlt)
          have hkl : k < (tx (linesTo (fun i => a.getD i ⟨#[]⟩ ++ (mkM idEl a.length a.length).getD i ⟨#[]⟩) a.length k)).length := by rw [List.length_map, linesTo_length _ hk]; exact hlt
          have hfz := hown.frozen k
          have hcl := hown.cell (i := k) hkl
          have b1 : (k : Int) < (a.length : Int) := by omega
          have hrk := hsz.out k hlt
          have huk := mkM_size idEl (m := a.length) (n := a.length) hlt
          have hadd : ¬ 9223372036854775807 < (a.getD k ⟨#[]⟩).size + ((mkM idEl a.length a.length).getD k ⟨#[]⟩).size := by omega
          clear hrk huk
          generalize a.getD k ⟨#[]⟩ = rk at *
          generalize (mkM idEl a.length a.length).getD k ⟨#[]⟩ = uk at *
          clear hc0 hmk2
          go_wp2
          go_region
          all_goals
            go_wp2
            go_roundw
            case rel => exact ⟨k + 1, by omega, by go_num, by rw [hnx.out]; exact (hown.set k _).drew, (hbel.setCell (Nat.le_refl _) _).drew⟩
            case measure => simp [intOf]; omega
        · have e : k = a.length := by omega
          subst e
          rw [linesTo_all] at hown
          have hsz0 : Hid (∀ i, i < a.length → ((stL a).getD i ⟨#[]⟩).size = a.length + a.length) := Lib.hid (fun i hi => by
            rw [stL, List.getD_eq_getElem?_getD, List.getElem?_map, List.getElem?_range hi]
            show (a.getD i ⟨#[]⟩ ++ (mkM idEl a.length a.length).getD i ⟨#[]⟩).size = _
            rw [app_size, hsz.out i hi, mkM_size _ hi])
          have hln0 : (stL a).length = a.length := by simp [stL]
          clear hmk2 how hou2 hbw
          go_wp2
          go_loopw [9, 10, 51] (fun _ _ i wr => ∃ (k : Nat) (l : List ByteArray), k ≤ a.length ∧ i = .int .i64 (k : Int) ∧ Own wr w1.heap.size 9 (.slice (some ⟨w1.heap.size, 0, none⟩) a.length a.length) (tx l) ∧ l.length = a.length ∧ Hid (∀ i, i < a.length → (l.getD i ⟨#[]⟩).size = a.length + a.length) ∧ Hid (gj a.length 0 (stL a) = gj (a.length - k) k l) ∧ Below w1.heap.size w1 wr) (fun _ _ i _ => a.length - (intOf i).toNat)
          case atStart => exact ⟨0, stL a, by omega, rfl, hown, hln0, hsz0, Lib.hid rfl, hbel⟩
          case round =>
            obtain ⟨k, l, hk, rfl, hown, hll, hsl, hgj, hbel⟩ := hrel
            by_cases hlt : k < a.length
            · have hbelw : Below w.heap.size w wr := hb1.trans (hbel.mono hz8)
              have hSr : SRow wr w1.heap.size 0 l := ⟨fun i hi => by rw [Nat.zero_add, hown.cell (by simpa using hi), tx_getD l hi], hown.lt.2⟩
              have hpv := pivot_any w1.heap.size 0 a.length l k wr hSr (by omega) (by omega) (fun i hi => by rw [hsl.out i (by omega)]; omega)
              rw [hll] at hpv
              obtain ⟨q1, q2, q3, q4⟩ := pvt_spec l k (a.length - k) k
              have hgs := hgj.out
              rw [show a.length - k = (a.length - (k + 1)) + 1 by omega, gj, hll] at hgs
              obtain ⟨p, hp⟩ : ∃ p, pvt l k (a.length - k) k = p := ⟨_, rfl⟩
              rw [hp] at hpv q1 q2 q3 hgs
              by_cases he : p = a.length
              · rw [if_pos he] at hgs
                have hgs' := Lib.hid hgs
                subst he
                clear hgs hp hgj q3 q4 hc0
                go_wp2_with (go_at_call 50; ((with_reducible refine hpv.mono ?_); rintro e w' ⟨rfl, rfl⟩))
                go_ret2
                exact ⟨.slice none 0 0, by rw [invE, if_pos hz.out, hgs'.out]; rfl, by rw [invL, if_pos hz.out, hgs'.out]; exact Own.nil _ _ _, hbelw⟩
              · rw [if_neg he] at hgs
                have hgs' := Lib.hid hgs
                have hgj0 := hgj
                have hpl : p < a.length := by omega
                have hnz := q3 (by omega)
                have hck := hown.cell (i := k) (by rw [List.length_map]; omega)
                rw [tx_getD l (by omega)] at hck
                have hcp := hown.cell (i := p) (by rw [List.length_map]; omega)
                rw [tx_getD l (by omega)] at hcp
                have hfk := hown.frozen k
                have hfp := hown.frozen p
                have b1 : (k : Int) < (a.length : Int) := by omega
                have b2 : (p : Int) < (a.length : Int) := by omega
                have b3 : ((p : Int) == (a.length : Int)) = false := by rw [beq_eq_false_iff_ne]; omega
                have hlk : (swapL l k p).length = a.length := by rw [swapL_length, hll]
                have hsk : Hid (∀ i, i < a.length → ((swapL l k p).getD i ⟨#[]⟩).size = a.length + a.length) := Lib.hid (fun i hi => by rw [swapL_get l (by omega) (by omega)]; exact hsl.out _ (swp_lt' hlt hpl hi))
                have hrd := fun W (hW : Tabs W) (hO : Own W w1.heap.size 9 (.slice (some ⟨w1.heap.size, 0, none⟩) a.length a.length) (tx (swapL l k p))) => reduce_any w1.heap.size a.length w1.heap.size (swapL l k p) k W hW (Nat.le_trans ht.two hz8) (by rw [hlk]; exact hO) (by omega) (by omega) (fun i hi => by rw [hsk.out i (by omega)]; omega) (by rw [swapL_get l (by omega) (by omega), show Mx.swp k p k = p from if_pos rfl]; exact hnz)
                rw [hlk] at hrd
                have htx := Lib.hid (swapL_tx l k p)
                have hsr : Hid (∀ i, i < a.length → ((redL (swapL l k p) k).getD i ⟨#[]⟩).size = a.length + a.length) := Lib.hid (fun i hi => redL_size _ (by omega) (by omega) (fun j hj => hsk.out j (by omega)))
                have hlr : (redL (swapL l k p) k).length = a.length := by rw [redL_length, hlk]
                have htr : Tabs wr := ht.below hbelw ht.two
                have h2w : 2 ≤ w1.heap.size := Nat.le_trans ht.two hz8
                have hnx : Own wr w1.heap.size 9 (.slice (some ⟨w1.heap.size, 0, none⟩) a.length a.length) (tx l) := hown
                clear hgs hp hgj q3 q4 hc0 hown
                generalize l.getD k ⟨#[]⟩ = rk at *
                generalize l.getD p ⟨#[]⟩ = rp at *
                by_cases hkp : p = k
                · subst hkp
                  have e : rp = rk := by rw [hck] at hcp; simpa using hcp.symm
                  subst e
                  clear hcp hfp
                  go_wp2_with (go_at_call 50; ((with_reducible refine hpv.mono ?_); rintro e w' ⟨rfl, rfl⟩))
                  go_region
                  all_goals
                    have ho3 := ((hnx.set p (.string rp)).set p (.string rp)).drew
                    rw [← htx.out] at ho3
                    have hr3 := hrd _ ((htr.setCell (by simp; omega) _).setCell (by simp; omega) _).drew ho3
                    clear ho3
                    go_wp2_with (go_at_call 51; ((with_reducible refine hr3.mono ?_); rintro e w7 ⟨rfl, ho7, hb7⟩))
                    go_roundw
                    case rel => exact ⟨p + 1, redL (swapL l p p) p, by omega, by go_num, ho7, hlr, hsr, hgs', (((hbel.setCell (Nat.le_refl _) _).setCell (Nat.le_refl _) _).drew).trans hb7⟩
                    case measure => simp [intOf]; omega
                · go_wp2_with (go_at_call 50; ((with_reducible refine hpv.mono ?_); rintro e w' ⟨rfl, rfl⟩))
                  go_region
                  all_goals
                    have ho3 := ((hnx.set k (.string rp)).set p (.string rk)).drew
                    rw [← htx.out] at ho3
                    have hr3 := hrd _ ((htr.setCell (by simp; omega) _).setCell (by simp; omega) _).drew ho3
                    clear ho3
                    go_wp2_with (go_at_call 51; ((with_reducible refine hr3.mono ?_); rintro e w7 ⟨rfl, ho7, hb7⟩))
                    go_roundw
                    case rel => exact ⟨k + 1, redL (swapL l k p) k, by omega, by go_num, ho7, hlr, hsr, hgs', (((hbel.setCell (Nat.le_refl _) _).setCell (Nat.le_refl _) _).drew).trans hb7⟩
                    case measure => simp [intOf]; omega
            · have e : k = a.length := by omega
              subst e
              have hgs := hgj.out
              rw [show a.length - a.length = 0 by omega, gj] at hgs
              have hgs' := Lib.hid hgs
              clear hgs hgj hc0
              go_wp2
              go_loopw [11, 79] (fun _ i wr => ∃ q : Nat, q ≤ a.length ∧ i = .int .i64 (q : Int) ∧ Own wr w1.heap.size 9 (.slice (some ⟨w1.heap.size, 0, none⟩) a.length a.length) (tx (halfTo a.length l q)) ∧ Below w1.heap.size w1 wr) (fun _ i _ => a.length - (intOf i).toNat)
              case atStart => exact ⟨0, by omega, rfl, by rw [halfTo_zero]; exact hown, hbel⟩
              case round =>
                obtain ⟨q, hq, rfl, hownq, hbelq⟩ := hrel
                by_cases hlq : q < a.length
                · have hcq := hownq.cell (i := q) (by rw [List.length_map, halfTo_length]; omega)
                  rw [tx_getD _ (by rw [halfTo_length]; omega), halfTo_at] at hcq
                  have hfq := hownq.frozen q
                  have hnq := Lib.hid (halfTo_succ a.length l (k := q) (by omega))
                  have b1 : (q : Int) < (a.length : Int) := by omega
                  have b2 := hsl.out q hlq
                  have b4 : (a.length : Int) ≤ ((l.getD q ⟨#[]⟩).size : Int) := by omega
                  have b5 : ((l.getD q ⟨#[]⟩).size : Int) ≤ 1000 := by omega
                  clear b2
                  generalize l.getD q ⟨#[]⟩ = rq at *
                  go_wp2
                  go_roundw
                  case rel => exact ⟨q + 1, by omega, by go_num, by rw [hnq.out]; exact hownq.set q _, hbelq.setCell (Nat.le_refl _) _⟩
                  case measure => simp [intOf]; omega
                · have e : q = l.length := by omega
                  subst e
                  rw [halfTo_all] at hownq
                  go_wp2
                  go_ret2
                  exact ⟨.slice (some ⟨w1.heap.size, 0, none⟩) a.length a.length, by rw [invE, if_pos hz.out, hgs'.out]; rfl, by rw [invL, if_pos hz.out, hgs'.out]; exact hownq.mono hz8, hb1.trans (hbelq.mono hz8)⟩
end Go.Proofs.YtcmnojflllcdfaaDoor
