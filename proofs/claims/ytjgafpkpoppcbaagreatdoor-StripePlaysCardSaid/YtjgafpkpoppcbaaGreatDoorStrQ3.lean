import Derived.Test.YtjgafpkpoppcbaaGreatDoorStrQ2
import Derived.Test.YtjgafpkpoppcbaaGreatDoorStrHarm
import Derived.Test.YtjgafpkpoppcbaaGreatDoorLstr
import Derived.Test.YtjgafpkpoppcbaaGreatDoorLrs
set_option linter.unusedVariables false
set_option linter.unusedSimpArgs false
namespace Go.Proofs.YtjgafpkpoppcbaaGreatDoor
open Go.RowKit
set_option maxRecDepth 100000
section
variable {w w1 : World} {S : Nat → Prop} {k n : Nat} {R : Rk}
set_option maxHeartbeats 4000000 in
theorem kstf_any (h : KA w S w1 k n R) (c : Nat) (hk : ROk n R c) (vl : Value) (l : List Int) (hv : Reads w1 vl (l.map (.int .i64))) (hvS : l ≠ [] → ∀ q, vl.ownBlock = some q → ¬ S q) (hl : l.length ≤ 1000000) (hc : c + l.length ≤ 1000000000000) :
    Calls Tryz.prog 13 #[.pointer (some ⟨k, 0, none⟩), vl] w1 (KEDoes w S w1 k n (stF n R l)) := by
  have cS := kt_slots h
  have cN := named_any vl l w1 hv hl (n : Int)
  obtain ⟨i2, q1, q2, q3, q4⟩ := info_parts Tryz.infoIc
  have hww : w.heap.size ≤ w1.heap.size := h.b.size
  obtain ⟨va, vc, rfl, hit⟩ := Reads.items hv
  have HH := Lib.hid h
  have HK := Lib.hid hk
  by_cases hR : srightB l (n : Int) = true
  · have hin : ∀ x ∈ l, 0 ≤ x ∧ x < (n : Int) := (of_decide_eq_true hR).1
    have HX0 : Hid (stF n R l = ea (fl1 n) R [] l) := Lib.hid (by unfold stF; rw [if_pos hR])
    rw [hR] at cN
    have HIN := Lib.hid hin
    generalize stF n R l = X at *
    have HIT : Hid (∀ w2, Below w1.heap.size w1 w2 → ∀ i (hi : i < l.length), ∃ cb co, va = some ⟨cb, co, none⟩ ∧ ∀ R' v xs wr, KOwn w S w2 k n R' 3 v xs wr → wr.cell? ⟨cb, co + i, none⟩ = some (.int .i64 l[i])) := Lib.hid fun w2 hw2 i hi => by
      obtain ⟨cb, co, e1, e2, e3⟩ := hit i hi
      refine ⟨cb, co, e1, fun R' v xs wr hr => ?_⟩
      exact (cell_of_heap (hr.keep (Nat.lt_of_lt_of_le e2 hw2.size) (hvS (fun z => by rw [z] at hi; exact Nat.not_lt_zero _ hi) cb (by rw [e1]; rfl))) (co + i)).trans ((hw2.cell (p := ⟨cb, co + i, none⟩) e2).trans e3)
    clear hit hv hvS h hk hR hin
    go_enter Tryz.func13, Tryz.ntmps13
    go_wp2_with (fail)
    refine cS.mono ?_
    rintro e w1' ⟨rfl, rfl⟩
    go_wp2_with (fail)
    refine cN.mono ?_
    rintro e w2 ⟨rfl, b2⟩
    have H2 := Lib.hid b2
    have HN : Hid (KOwn w S w2 k n R 3 (.slice none 0 0) [] w2) := Lib.hid (KOwn.nil (KNow.start (HH.out.after b2)) 3)
    have hww2 : w.heap.size ≤ w2.heap.size := Nat.le_trans hww b2.size
    have HT2 := Lib.hid (HIT.out w2 b2)
    clear cS cN b2 HIT
    go_wp2_with (fail)
    go_loopw [4, 5, 7, 8, 9] (fun _ _ u t _ wr => ∃ (i : Nat) (R' : Rk) (acc : List Int), i ≤ l.length ∧ t = .int .i64 (i : Int) ∧ X = ea (fl1 n) R' acc (l.drop i) ∧ ROk n R' (c + i) ∧ acc.length ≤ i ∧ KOwn w S w2 k n R' 3 u (acc.map (.int .i64)) wr) (fun _ _ _ t _ _ => l.length - (RowKit.intOf t).toNat)
    case atStart => exact ⟨0, R, [], Nat.zero_le _, rfl, HX0.out, HK.out, Nat.le_refl _, HN.out⟩
    case round =>
      clear HX0 HN HK HH
      obtain ⟨i, R', acc, hi, rfl, hX, hk, hal, ho⟩ := hrel
      rename World => wr
      by_cases hlt : i < l.length
      · have y1 : (i : Int) < (l.length : Int) := by omega
        obtain ⟨cb, co, rfl, hcell⟩ := HT2.out i hlt
        have hc1 := hcell _ _ _ _ ho
        rw [ea_drop (fl1 n) R' acc hlt] at hX
        have hxr := HIN.out _ (List.getElem_mem hlt)
        obtain ⟨x, hx⟩ : ∃ x, l[i] = x := ⟨_, rfl⟩
        rw [hx] at hX hc1 hxr
        have HC3 : Hid (∀ R' v xs wr, KOwn w S w2 k n R' 3 v xs wr → wr.cell? ⟨cb, co + i, none⟩ = some (.int .i64 x)) := Lib.hid fun R' v xs wr hr => by rw [hcell R' v xs wr hr, hx]
        have herr := fl_err (R := R') hxr
        have cd := ho.calls (R' := flR n R' x) (fun S' hA _ => kt_flush hA x (hk.le (by omega)))
        have hk2 := fl1_ok R' x _ hk
        have hXe : Hid (X = if flRE n R' x = 0 then ea (fl1 n) (flR n R' x) acc (l.drop (i + 1)) else if flRE n R' x = 80 then ea (fl1 n) (flR n R' x) (acc ++ [x]) (l.drop (i + 1)) else (flR n R' x, [], flRE n R' x)) := Lib.hid hX
        have Hk2 : Hid (ROk n (flR n R' x) (c + i + 1)) := Lib.hid hk2
        generalize flRE n R' x = e2 at *
        generalize flR n R' x = R2 at *
        clear hX hcell hk ho hk2 hx hxr
        rcases herr with rfl | rfl | rfl
        · have hX2 : Hid (X = ea (fl1 n) R2 acc (l.drop (i + 1))) := Lib.hid (by rw [hXe.out, if_pos rfl])
          clear hXe
          go_wp2_with (fail)
          refine cd.mono ?_
          rintro e w3 ⟨rfl, h3⟩
          have H3 := Lib.hid h3
          clear h3 cd hc1
          go_wp2_with (fail)
          go_roundw
          case rel => exact ⟨i + 1, R2, acc, by omega, by go_num, hX2.out, by rw [← Nat.add_assoc]; exact Hk2.out, by omega, H3.out⟩
          case measure => simp [RowKit.intOf]; omega
        · have hX2 : Hid (X = ea (fl1 n) R2 (acc ++ [x]) (l.drop (i + 1))) := Lib.hid (by rw [hXe.out, if_neg (by decide), if_pos rfl])
          clear hXe
          go_wp2_with (fail)
          refine cd.mono ?_
          rintro e w3 ⟨rfl, h3⟩
          have hc3 := HC3.out _ _ _ _ h3
          obtain ⟨v4, w4, hap, h4⟩ := h3.push (P := Tryz.prog) (T := 26) Tryz.underlying26 q1 q2 q3 q4 rfl hww2 (.int .i64 x) rfl (by rw [List.length_map]; omega) (by rw [List.length_map]; omega)
          have H4 := Lib.hid h4
          clear h3 h4 cd hc1
          go_wp2_with (at_builtin; refine wpList_append_run hap _ _ rfl rfl rfl rfl rfl ?_)
          go_roundw
          case rel => exact ⟨i + 1, R2, acc ++ [x], by omega, by go_num, hX2.out, by rw [← Nat.add_assoc]; exact Hk2.out, by rw [List.length_append]; simp; omega, by rw [List.map_append]; exact H4.out⟩
          case measure => simp [RowKit.intOf]; omega
        · have hX2 : Hid (X = (R2, [], 90)) := Lib.hid (by rw [hXe.out, if_neg (by decide), if_neg (by decide)])
          clear hXe
          go_wp2_with (fail)
          refine cd.mono ?_
          rintro e w3 ⟨rfl, h3⟩
          have H3 := Lib.hid (KOwn.nil h3.now 3)
          clear h3 cd hc1
          go_wp2_with (fail)
          go_ret2
          obtain rfl := hX2.out
          exact KEDoes.from H2.out ⟨_, rfl, H3.out⟩
      · obtain rfl : i = l.length := by omega
        have y1 : ¬ ((l.length : Int) < (l.length : Int)) := by omega
        rw [List.drop_length] at hX
        have hX2 : Hid (X = (R', acc, 0)) := Lib.hid hX
        have H3 := Lib.hid ho
        clear hX ho hk
        go_wp2_with (fail)
        go_ret2
        obtain rfl := hX2.out
        exact KEDoes.from H2.out ⟨_, rfl, H3.out⟩
  · have hRf : srightB l (n : Int) = false := by simpa using hR
    have HX0 : Hid (stF n R l = (R, [], 1)) := Lib.hid (by unfold stF; rw [if_neg hR])
    rw [hRf] at cN
    generalize stF n R l = X at *
    clear hit hv hvS h hk hR hRf
    go_enter Tryz.func13, Tryz.ntmps13
    go_wp2_with (fail)
    refine cS.mono ?_
    rintro e w1' ⟨rfl, rfl⟩
    go_wp2_with (fail)
    refine cN.mono ?_
    rintro e w2 ⟨rfl, b2⟩
    have HF := Lib.hid (kedoes_no HH.out b2 1)
    clear cS cN b2
    go_wp2_with (fail)
    go_ret2
    rw [HX0.out]
    exact HF.out
end
end Go.Proofs.YtjgafpkpoppcbaaGreatDoor
