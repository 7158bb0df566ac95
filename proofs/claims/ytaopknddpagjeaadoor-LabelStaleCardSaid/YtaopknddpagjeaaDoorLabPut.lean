/- label: a label laid: the document's own. -/
import Derived.Test.YtaopknddpagjeaaDoorLabRead
import Derived.Test.YtaopknddpagjeaaDoorPackNum
import Derived.Test.YtaopknddpagjeaaDoorPackFill
namespace Go.Proofs.YtaopknddpagjeaaDoor
open Go.RowKit
set_option linter.unusedVariables false
set_option linter.unusedSimpArgs false
open Lb

theorem enc_size (x : Lbl) (hR : Rt x) (k : Nat) : (Lb.mark ++ encI ((items x).take k)).size ≤ 300 := by
  have hf := items_fit hR
  obtain ⟨n, hn, e1, e2, e3, h2, h7⟩ := hR.nat
  have h1 := encI_size ((items x).take k) fun p hp => (hf p (List.mem_of_mem_take hp)).2.1
  have h3 : (items x).length = 6 + 3 * n := by rw [items, List.length_append, tails_len e1 e2 e3]; rfl
  have h4 : ((items x).take k).length ≤ 27 := by rw [List.length_take]; omega
  rw [ByteArray.size_append]
  have : Lb.mark.size = 4 := rfl
  omega
set_option maxRecDepth 100000 in
set_option maxHeartbeats 8000000 in
theorem lput_any (x : Lbl) (vs vb vc : Value) (w : World) (h : LR w x vs vb vc) : Calls Tryd.prog 11 #[x.v vs vb vc] w (Tells2 w (putL x) (putE x)) := by
  have hbb : Below w.heap.size w (w.alloc (.cells #[.int .i64 x.i, .int .i64 x.s, .int .i64 x.g, .int .i64 x.k, .int .i64 x.m, .int .i64 x.b, vs, vb, vc] 26)) := (Below.refl _ _).alloc (Nat.le_refl _) _
  have hA := LblAt.made w x vs vb vc 26
  have cR : ∀ W, Below w.heap.size w W → Calls Tryd.prog 15 #[.agg #[.int .i64 x.i, .int .i64 x.s, .int .i64 x.g, .int .i64 x.k, .int .i64 x.m, .int .i64 x.b, vs, vb, vc]] W fun e w' => e = .returned (.bool (rightB x)) ∧ Below W.heap.size W w' := fun W hW => lright_any x vs vb vc W (h.below hW)
  unfold Lbl.v
  cases hb : rightB x with
  | false =>
    have hz : Hid (putL x = ⟨#[]⟩ ∧ putE x = 100) := Lib.hid ⟨by rw [putL, hb]; rfl, by rw [putE, hb]; rfl⟩
    rw [hb] at cR
    clear h hb
    generalize hwb : w.alloc (.cells #[.int .i64 x.i, .int .i64 x.s, .int .i64 x.g, .int .i64 x.k, .int .i64 x.m, .int .i64 x.b, vs, vb, vc] 26) = wb at *
    go_enter Tryd.func11, Tryd.ntmps11
    have ⟨e0, e1, e2, e3, e4, e5, e6, e7, e8, elt⟩ := hA
    go_wp2_with (fail)
    refine (cR _ hbb).mono ?_
    rintro e w2 ⟨rfl, b2⟩
    replace hbb := below_c hbb b2
    go_wp2_with (fail)
    go_ret2
    exact ⟨by rw [hz.out.1, hz.out.2]; rfl, hbb⟩
  | true =>
    have hR := (right_iff x).1 hb
    obtain ⟨n, hnS, l1, l2, l3, n2, n7⟩ := hR.nat
    have hz : Hid (putL x = Lb.mark ++ encI (items x) ∧ putE x = 0) := Lib.hid ⟨by rw [putL, hb]; rfl, by rw [putE, hb]; rfl⟩
    have hsz := enc_size x hR
    have hfit := items_fit hR
    have hil : (items x).length = 6 + 3 * n := by rw [items, List.length_append, tails_len l1 l2 l3]; rfl
    rw [hb] at cR
    obtain ⟨a1, c1, rfl, k1⟩ := h.s.nums
    obtain ⟨a2, c2, rfl, k2⟩ := h.b.nums
    obtain ⟨a3, c3, rfl, k3⟩ := h.c.nums
    obtain ⟨sb, so, rfl, s1, _⟩ := k1 0 (by omega)
    obtain ⟨bb, bo, rfl, s2, _⟩ := k2 0 (by omega)
    obtain ⟨cb, co, rfl, s3, _⟩ := k3 0 (by omega)
    have hH2 := tailF_holds (so := so) (bo := bo) (co := co) s1 s2 s3 (a := x.st) (b := x.bo) (c := x.cu) (by omega) (by omega)
      (fun i hi => by obtain ⟨_, _, e, _, g⟩ := k1 i (by omega); simp at e; obtain ⟨rfl, rfl⟩ := e; exact g)
      (fun i hi => by obtain ⟨_, _, e, _, g⟩ := k2 i (by omega); simp at e; obtain ⟨rfl, rfl⟩ := e; exact g)
      (fun i hi => by obtain ⟨_, _, e, _, g⟩ := k3 i (by omega); simp at e; obtain ⟨rfl, rfl⟩ := e; exact g) n (by omega)
    rw [List.take_of_length_le (by omega), List.take_of_length_le (by omega), List.take_of_length_le (by omega)] at hH2
    rw [l1, l2, l3] at cR hbb hA
    rw [l1, l2, l3]
    clear k1 k2 k3 h hb hR
    generalize hwb : w.alloc (.cells #[.int .i64 x.i, .int .i64 x.s, .int .i64 x.g, .int .i64 x.k, .int .i64 x.m, .int .i64 x.b, (.slice (some ⟨sb, so, none⟩) n c1), (.slice (some ⟨bb, bo, none⟩) n c2), (.slice (some ⟨cb, co, none⟩) n c3)] 26) = wb at *
    go_enter Tryd.func11, Tryd.ntmps11
    have ⟨e0, e1, e2, e3, e4, e5, e6, e7, e8, elt⟩ := hA
    go_wp2_with (fail)
    refine (cR _ hbb).mono ?_
    rintro e w2 ⟨rfl, b2⟩
    have hA2 := hA.below b2 elt
    have B2 := below_c hbb b2
    clear hA hbb hwb b2 cR elt e0 e1 e2 e3 e4 e5 e6 e7 e8
    go_wp2_with (fail)
    refine (head_any _ _).mono ?_
    rintro e w3 ⟨v1, rfl, o1, b3, _⟩
    have hH1 := (headF_holds hA2).below b3
    have hA3 := hA2.below b3 hA2.lt
    have B3 := below_c B2 b3
    clear hA2 b3 B2
    go_wp2_with (fail)
    refine (tail_any _ sb so bb bo cb co n c1 c2 c3 _ _ _ _ hA3.lt (by omega) hA3.c6 hA3.c7 hA3.c8 (fun _ => rfl) (fun _ => rfl) (fun _ => rfl)).mono ?_
    rintro e w4 ⟨v2, rfl, o2, b4⟩
    have r1 := (o1.after b4).reads
    have hH1' := hH1.below b4
    have B4 := below_c B3 b4
    have r2 := o2.reads
    obtain ⟨g1, cp1, hv1, _, _⟩ := o1.form (by simp [headF])
    obtain ⟨g2, cp2, hv2, _, _⟩ := o2.form (by rw [tailF_len]; omega)
    rw [show (headF w.heap.size).length = 6 from rfl] at hv1
    rw [tailF_len] at hv2
    subst hv1 hv2
    clear hH1 hA3 b4 B3 o1 o2
    have hbx : Below w4.heap.size w4 (w4.alloc (.cells #[.slice (some ⟨g1, 0, none⟩) 6 cp1, .slice (some ⟨g2, 0, none⟩) (3 * n) cp2] 57)) := (Below.refl _ _).alloc (Nat.le_refl _) _
    have cC := fconcat _ _ (headF w.heap.size) (tailF sb so bb bo cb co n) w4.heap.size 2 _ (by simp) (by simp) (by simp) (r1.below hbx) (r2.below hbx) (by simp [headF]) (by simp [headF]) (by rw [tailF_len]; omega)
    go_wp2_with (fail)
    refine cC.mono ?_
    rintro e w5 ⟨v3, rfl, o3, b5⟩
    have B5 := below_c (below_c B4 hbx) b5
    have hH : HoldsL w5 (headF w.heap.size ++ tailF sb so bb bo cb co n) (items x) := ((hH1'.below hbx).below b5).append (hH2.below B5)
    clear cC hbx b5 B4 r1 r2 hH1' hH2
    obtain ⟨F, hF⟩ : ∃ F, headF w.heap.size ++ tailF sb so bb bo cb co n = F := ⟨_, rfl⟩
    rw [hF] at hH o3
    have hFl := hH.len
    rw [hil] at hFl
    obtain ⟨g, cap, rfl, _, hg⟩ := o3.form (by omega)
    clear hF
    rw [hFl] at o3 ⊢
    go_wp2_with (fail)
    have hh0 : Hid (Lb.mark ++ encI ((items x).take 0) = Lb.mark) := Lib.hid (by rw [List.take_zero, encI, Rm.app_nil])
    have hmk : Hid (Lb.mark = ⟨#[83, 84, 86, 49]⟩) := Lib.hid rfl
    rw [← hmk.out]
    go_loopw [4, 17] (fun s t wr => ∃ k : Nat, k ≤ 6 + 3 * n ∧ t = .int .i64 (k : Int) ∧ s = .string (Lb.mark ++ encI ((items x).take k)) ∧ Below w5.heap.size w5 wr) (fun _ t _ => 6 + 3 * n - (intOf t).toNat)
    case atStart => exact ⟨0, by omega, rfl, by rw [hh0.out], Below.refl _ _⟩
    case round =>
      obtain ⟨k, hk, rfl, rfl, hB⟩ := hrel
      rename World => wr
      have hBs := hB.size
      by_cases hlt : k < 6 + 3 * n
      · have y1 : (k : Int) < 6 + 3 * (n : Int) := by omega
        have y2 : (k : Int) < ((6 + 3 * n : Nat) : Int) := by omega
        obtain ⟨b, o, hf, hb1, hb2⟩ := hH.at k (by omega)
        have hft := hfit _ (mem_getD (l := items x) (k := k) (by omega))
        have hst := encI_step (items x) k (by omega)
        generalize (items x).getD k default = it at *
        have hfk : F.getD k default = F[k]'(by omega) := by simp [List.getD_eq_getElem?_getD, show k < F.length by omega]
        rw [hfk] at hf
        have d0 : wr.cell? ⟨g, k * 2, none⟩ = some (.pointer (some ⟨b, o, none⟩)) := by
          have := o3.cell (i := k) (by omega) (j := 0) (by decide)
          rw [hf] at this
          exact (hB.cell (p := ⟨g, k * 2, none⟩) hg).trans this
        have d1 : wr.cell? ⟨g, k * 2 + 1, none⟩ = some (.int .i64 (it.2 : Int)) := by
          have := o3.cell (i := k) (by omega) (j := 1) (by decide)
          rw [hf] at this
          exact (hB.cell (p := ⟨g, k * 2 + 1, none⟩) hg).trans this
        have d2 : wr.cell? ⟨b, o, none⟩ = some (.int .i64 it.1) := (hB.cell (p := ⟨b, o, none⟩) hb1).trans hb2
        have hbw : b < wr.heap.size := Nat.lt_of_lt_of_le hb1 hBs
        have cN : ∀ W, Calls Tryd.prog 30 #[.int .i64 it.1, .int .i64 (it.2 : Int)] W fun e w' => e = .returned (.tuple #[.string (numL it.1 (it.2 : Int)), .int .i64 0]) ∧ Below W.heap.size W w' := fun W => by
          have := num_any it.1 (it.2 : Int) W
          rw [fits_numE hft] at this
          exact this
        have HE : Hid (Lb.mark ++ encI ((items x).take (k + 1)) = Lb.mark ++ encI ((items x).take k) ++ numL it.1 (it.2 : Int)) := Lib.hid (by rw [hst, Rm.app_assoc])
        have z1 := hsz k
        have z2 := hsz (k + 1)
        rw [HE.out] at z2
        generalize Lb.mark ++ encI ((items x).take k) = S at *
        generalize numL it.1 (it.2 : Int) = N at *
        have z3 : S.size + N.size ≤ 300 := by rw [← ByteArray.size_append]; exact z2
        have z4 : (S.size : Int) + (N.size : Int) ≤ 300 := by omega
        clear hst hfk hf hft hb1 hb2 hfit hH
        have hbx : Below wr.heap.size wr (wr.alloc (.cells #[.pointer (some ⟨b, o, none⟩), .int .i64 (it.2 : Int)] 61)) := (Below.refl _ _).alloc (Nat.le_refl _) _
        go_wp2_with (fail)
        have f0 : (wr.alloc (.cells #[.pointer (some ⟨b, o, none⟩), .int .i64 (it.2 : Int)] 61)).cell? ⟨wr.heap.size, 0, none⟩ = some (.pointer (some ⟨b, o, none⟩)) := by rw [World.cell?_alloc_mark]; rfl
        have f1 : (wr.alloc (.cells #[.pointer (some ⟨b, o, none⟩), .int .i64 (it.2 : Int)] 61)).cell? ⟨wr.heap.size, 1, none⟩ = some (.int .i64 (it.2 : Int)) := by rw [World.cell?_alloc_mark]; rfl
        have f2 : (wr.alloc (.cells #[.pointer (some ⟨b, o, none⟩), .int .i64 (it.2 : Int)] 61)).cell? ⟨b, o, none⟩ = some (.int .i64 it.1) := (hbx.cell (p := ⟨b, o, none⟩) hbw).trans d2
        have hws : wr.heap.size < (wr.alloc (.cells #[.pointer (some ⟨b, o, none⟩), .int .i64 (it.2 : Int)] 61)).heap.size := by simp
        generalize hwx : wr.alloc (.cells #[.pointer (some ⟨b, o, none⟩), .int .i64 (it.2 : Int)] 61) = wx at *
        refine wp_region_cls (Below wx.heap.size wx) (by kernel_rfl) (by kernel_rfl) (Below.refl _ _).drew ?_
        intro Z f hne hD hE
        have p0 : ∀ z, (f z).cell? ⟨wr.heap.size, 0, none⟩ = _ := fun z => (clsCell hD z _ _ hws).trans f0
        have p1 : ∀ z, (f z).cell? ⟨wr.heap.size, 1, none⟩ = _ := fun z => (clsCell hD z _ _ hws).trans f1
        have p2 : ∀ z, (f z).cell? ⟨b, o, none⟩ = _ := fun z => (clsCell hD z _ _ (Nat.lt_trans hbw hws)).trans f2
        clear d0 d1 d2 f0 f1 f2 hwx
        iterate 12 (go_big_quiet_step ((go_at_call 30; with_reducible exact toQB hD hE _ (cN _))))
        refine wpQuiet_nil ?_
        intro _ hw'
        obtain ⟨zq, hw''⟩ := hw'
        subst hw''
        have hB3 := hB.trans ((hbx.mono hBs).trans ((hD zq).mono (by have := hbx.size; omega)))
        clear p0 p1 p2
        go_wp2_with (fail)
        go_roundw
        case rel => exact ⟨k + 1, by omega, by go_num, by rw [HE.out], hB3⟩
        case measure => simp [intOf]; omega
      · obtain rfl : k = 6 + 3 * n := by omega
        have y2 : ¬ (((6 + 3 * n : Nat) : Int) < ((6 + 3 * n : Nat) : Int)) := by omega
        rw [List.take_of_length_le (by omega)]
        have hB6 := below_c B5 hB
        go_wp2_with (fail)
        go_ret2
        exact ⟨by rw [hz.out.1, hz.out.2]; rfl, hB6⟩
open Go.RowKit
set_option linter.unusedVariables false
set_option linter.unusedSimpArgs false
open Lb

theorem num10_any (n width : Int) (w : World) : Calls Tryd.prog 31 #[.int .i64 n, .int .i64 width] w (Tells w (.string (numL n width))) := by
  have hc := fun W => rnum_any n width W
  generalize numL n width = s at *
  generalize numE n width = e at *
  go_enter Tryd.func31, Tryd.ntmps31
  go_wp2_with (go_at_call 58; refine (hc _).mono ?_; rintro e w3 ⟨rfl, b3⟩)
  go_ret
  exact ⟨rfl, b3⟩
theorem numL_size (n : Int) (W : Nat) (h : W ≤ 7) : (numL n (W : Int)).size ≤ 7 := by
  rw [numL]; split
  · rw [lineOf_size, Pk.be_length, Int.toNat_natCast]; exact h
  · exact Nat.zero_le _
theorem tails_le : ∀ (a b c : List Int), ∀ p ∈ tails a b c, p.2 ≤ 7
  | [], _, _, p, h => by simp [tails] at h
  | _ :: _, [], _, p, h => by simp [tails] at h
  | _ :: _, _ :: _, [], p, h => by simp [tails] at h
  | x :: a, y :: b, z :: c, p, h => by
    simp only [tails, List.mem_cons] at h
    rcases h with rfl | rfl | rfl | h
    · exact Nat.le_of_ble_eq_true rfl
    · exact Nat.le_of_ble_eq_true rfl
    · exact Nat.le_of_ble_eq_true rfl
    · exact tails_le a b c p h
def layTo (x : Lbl) (k : Nat) : ByteArray := Lb.mark ++ encI (heads x ++ tails (x.st.take k) (x.bo.take k) (x.cu.take k))
theorem layTo_size (x : Lbl) (k n : Nat) (hk : k ≤ n) (h1 : x.st.length = n) (h2 : x.bo.length = n) (h3 : x.cu.length = n) (hn : n ≤ 7) : (layTo x k).size ≤ 300 := by
  have hl : (heads x ++ tails (x.st.take k) (x.bo.take k) (x.cu.take k)).length = 6 + 3 * k := by
    rw [List.length_append, tails_len (n := k) (by simp; omega) (by simp; omega) (by simp; omega)]; rfl
  have := encI_size (heads x ++ tails (x.st.take k) (x.bo.take k) (x.cu.take k)) fun p hp => by
    rcases List.mem_append.1 hp with hp | hp
    · simp [heads] at hp
      rcases hp with rfl | rfl | rfl | rfl | rfl | rfl <;> exact Nat.le_of_ble_eq_true rfl
    · exact tails_le _ _ _ p hp
  rw [layTo, ByteArray.size_append]
  have : Lb.mark.size = 4 := rfl
  omega
theorem layTo_step (x : Lbl) (k n : Nat) (hk : k < n) (h1 : x.st.length = n) (h2 : x.bo.length = n) (h3 : x.cu.length = n) :
    layTo x (k + 1) = layTo x k ++ numL (x.st.getD k 0) 1 ++ numL (x.bo.getD k 0) 6 ++ numL (x.cu.getD k 0) 1 := by
  rw [layTo, take_snoc x.st k (by omega), take_snoc x.bo k (by omega), take_snoc x.cu k (by omega), tails_snoc _ _ _ _ _ _ (by simp; omega) (by simp; omega), ← List.append_assoc, encI_append, layTo]
  show Lb.mark ++ (_ ++ (numL _ 1 ++ (numL _ 6 ++ (numL _ 1 ++ (⟨#[]⟩ : ByteArray))))) = _
  rw [Rm.app_nil]
  simp only [Rm.app_assoc]
theorem layTo_zero (x : Lbl) : layTo x 0 = ⟨#[83, 84, 86, 49]⟩ ++ numL x.i 2 ++ numL x.s 1 ++ numL x.k 1 ++ numL x.m 1 ++ numL x.b 1 ++ numL x.g 6 := by
  show Lb.mark ++ (numL _ 2 ++ (numL _ 1 ++ (numL _ 1 ++ (numL _ 1 ++ (numL _ 1 ++ (numL _ 6 ++ (⟨#[]⟩ : ByteArray))))))) = _
  rw [Rm.app_nil]
  simp only [Rm.app_assoc]
  rfl
theorem layTo_all (x : Lbl) (n : Nat) (h1 : x.st.length = n) (h2 : x.bo.length = n) (h3 : x.cu.length = n) : layTo x n = Lb.mark ++ encI (items x) := by
  rw [layTo, List.take_of_length_le (by omega), List.take_of_length_le (by omega), List.take_of_length_le (by omega)]; rfl
set_option maxRecDepth 100000 in
set_option maxHeartbeats 8000000 in
theorem rput_any (x : Lbl) (vs vb vc : Value) (w : World) (h : LR w x vs vb vc) : Calls Tryd.prog 12 #[x.v vs vb vc] w (Tells2 w (putL x) (putE x)) := by
  have hbb : Below w.heap.size w (w.alloc (.cells #[.int .i64 x.i, .int .i64 x.s, .int .i64 x.g, .int .i64 x.k, .int .i64 x.m, .int .i64 x.b, vs, vb, vc] 26)) := (Below.refl _ _).alloc (Nat.le_refl _) _
  have hA := LblAt.made w x vs vb vc 26
  have cR : ∀ W, Below w.heap.size w W → Calls Tryd.prog 16 #[.agg #[.int .i64 x.i, .int .i64 x.s, .int .i64 x.g, .int .i64 x.k, .int .i64 x.m, .int .i64 x.b, vs, vb, vc]] W fun e w' => e = .returned (.bool (rightB x)) ∧ Below W.heap.size W w' := fun W hW => rright10_any x vs vb vc W (h.below hW)
  unfold Lbl.v
  cases hb : rightB x with
  | false =>
    have hz : Hid (putL x = ⟨#[]⟩ ∧ putE x = 100) := Lib.hid ⟨by rw [putL, hb]; rfl, by rw [putE, hb]; rfl⟩
    rw [hb] at cR
    clear h hb
    generalize hwb : w.alloc (.cells #[.int .i64 x.i, .int .i64 x.s, .int .i64 x.g, .int .i64 x.k, .int .i64 x.m, .int .i64 x.b, vs, vb, vc] 26) = wb at *
    go_enter Tryd.func12, Tryd.ntmps12
    have ⟨e0, e1, e2, e3, e4, e5, e6, e7, e8, elt⟩ := hA
    go_wp2_with (fail)
    refine (cR _ hbb).mono ?_
    rintro e w2 ⟨rfl, b2⟩
    replace hbb := below_c hbb b2
    go_wp2_with (fail)
    go_ret2
    exact ⟨by rw [hz.out.1, hz.out.2]; rfl, hbb⟩
  | true =>
    have hR := (right_iff x).1 hb
    obtain ⟨n, hnS, l1, l2, l3, n2, n7⟩ := hR.nat
    have hz : Hid (putL x = layTo x n ∧ putE x = 0) := Lib.hid ⟨by rw [layTo_all x n l1 l2 l3, putL, hb]; rfl, by rw [putE, hb]; rfl⟩
    have hsz := fun k (hk : k ≤ n) => layTo_size x k n hk l1 l2 l3 n7
    have hstep := fun k (hk : k < n) => layTo_step x k n hk l1 l2 l3
    have hzero := Lib.hid (layTo_zero x)
    rw [hb] at cR
    obtain ⟨a1, c1, rfl, k1⟩ := h.s.nums
    obtain ⟨a2, c2, rfl, k2⟩ := h.b.nums
    obtain ⟨a3, c3, rfl, k3⟩ := h.c.nums
    rw [l1, l2, l3] at cR hbb hA
    rw [l1, l2, l3]
    rw [l1] at k1
    rw [l2] at k2
    rw [l3] at k3
    clear h hb hR
    generalize hwb : w.alloc (.cells #[.int .i64 x.i, .int .i64 x.s, .int .i64 x.g, .int .i64 x.k, .int .i64 x.m, .int .i64 x.b, (.slice a1 n c1), (.slice a2 n c2), (.slice a3 n c3)] 26) = wb at *
    have d10 : ∀ W, Calls Tryd.prog 31 #[.int .i64 x.i, .int .i64 2] W fun e w' => e = .returned (.string (numL x.i 2)) ∧ Below W.heap.size W w' := fun W => num10_any x.i 2 W
    have d11 : ∀ W, Calls Tryd.prog 31 #[.int .i64 x.s, .int .i64 1] W fun e w' => e = .returned (.string (numL x.s 1)) ∧ Below W.heap.size W w' := fun W => num10_any x.s 1 W
    have d12 : ∀ W, Calls Tryd.prog 31 #[.int .i64 x.k, .int .i64 1] W fun e w' => e = .returned (.string (numL x.k 1)) ∧ Below W.heap.size W w' := fun W => num10_any x.k 1 W
    have d13 : ∀ W, Calls Tryd.prog 31 #[.int .i64 x.m, .int .i64 1] W fun e w' => e = .returned (.string (numL x.m 1)) ∧ Below W.heap.size W w' := fun W => num10_any x.m 1 W
    have d14 : ∀ W, Calls Tryd.prog 31 #[.int .i64 x.b, .int .i64 1] W fun e w' => e = .returned (.string (numL x.b 1)) ∧ Below W.heap.size W w' := fun W => num10_any x.b 1 W
    have d15 : ∀ W, Calls Tryd.prog 31 #[.int .i64 x.g, .int .i64 6] W fun e w' => e = .returned (.string (numL x.g 6)) ∧ Below W.heap.size W w' := fun W => num10_any x.g 6 W
    have z10 := numL_size x.i 2 (by decide)
    have z11 := numL_size x.s 1 (by decide)
    have z12 := numL_size x.k 1 (by decide)
    have z13 := numL_size x.m 1 (by decide)
    have z14 := numL_size x.b 1 (by decide)
    have z15 := numL_size x.g 6 (by decide)
    have zM : (⟨#[83, 84, 86, 49]⟩ : ByteArray).size = 4 := rfl
    generalize numL x.i 2 = N0 at *
    generalize numL x.s 1 = N1 at *
    generalize numL x.k 1 = N2 at *
    generalize numL x.m 1 = N3 at *
    generalize numL x.b 1 = N4 at *
    generalize numL x.g 6 = N5 at *
    go_enter Tryd.func12, Tryd.ntmps12
    have ⟨e0, e1, e2, e3, e4, e5, e6, e7, e8, elt⟩ := hA
    go_wp2_with (fail)
    refine (cR _ hbb).mono ?_
    rintro e w2 ⟨rfl, b2⟩
    have hA2 := hA.below b2 elt
    have B2 := below_c hbb b2
    clear hA hbb hwb b2 cR elt e0 e1 e2 e3 e4 e5 e6 e7 e8
    go_wp2_with (fail)
    refine wp_region_cls (Below w2.heap.size w2) (by kernel_rfl) (by kernel_rfl) (Below.refl _ _).drew ?_
    intro Z f hne hD hE
    obtain ⟨i0, i1, i2, i3, i4, i5, i6, i7, i8⟩ := hA2.cls hD
    iterate 28 (go_big_quiet_step (first | (go_at_call 31; with_reducible exact toQB hD hE _ (d10 _)) | (go_at_call 31; with_reducible exact toQB hD hE _ (d11 _)) | (go_at_call 31; with_reducible exact toQB hD hE _ (d12 _)) | (go_at_call 31; with_reducible exact toQB hD hE _ (d13 _)) | (go_at_call 31; with_reducible exact toQB hD hE _ (d14 _)) | (go_at_call 31; with_reducible exact toQB hD hE _ (d15 _))))
    refine wpQuiet_nil ?_
    intro _ hw'
    obtain ⟨zq, hw''⟩ := hw'
    have b3 := hD zq
    rw [← hw''] at b3
    have hA3 := hA2.below b3 hA2.lt
    have B3 := below_c B2 b3
    clear i0 i1 i2 i3 i4 i5 i6 i7 i8 hw'' zq hD hE hne f Z b3 hA2 B2 d10 d11 d12 d13 d14 d15
    rename_i w3 
    go_wp2_with (fail)
    rw [← hzero.out]
    clear hzero zM z10 z11 z12 z13 z14 z15
    go_loopw [5, 6] (fun s t wr => ∃ k : Nat, k ≤ n ∧ t = .int .i64 (k : Int) ∧ s = .string (layTo x k) ∧ Below w3.heap.size w3 wr) (fun _ t _ => n - (intOf t).toNat)
    case atStart => exact ⟨0, by omega, rfl, rfl, Below.refl _ _⟩
    case round =>
      obtain ⟨k, hk, rfl, rfl, hB⟩ := hrel
      rename World => wr
      have hBs := hB.size
      have hA4 := hA3.below hB hA3.lt
      by_cases hlt : k < n
      · have y1 : (k : Int) < (n : Int) := by omega
        obtain ⟨sb, so, rfl, s1, g1⟩ := k1 k hlt
        obtain ⟨bb, bo, rfl, s2, g2⟩ := k2 k hlt
        obtain ⟨cb, co, rfl, s3, g3⟩ := k3 k hlt
        have Bw := below_c B3 hB
        have m1 : wr.cell? ⟨sb, so + k, none⟩ = _ := (Bw.cell (p := ⟨sb, so + k, none⟩) s1).trans g1
        have m2 : wr.cell? ⟨bb, bo + k, none⟩ = _ := (Bw.cell (p := ⟨bb, bo + k, none⟩) s2).trans g2
        have m3 : wr.cell? ⟨cb, co + k, none⟩ = _ := (Bw.cell (p := ⟨cb, co + k, none⟩) s3).trans g3
        have q1 : sb < wr.heap.size := Nat.lt_of_lt_of_le s1 Bw.size
        have q2 : bb < wr.heap.size := Nat.lt_of_lt_of_le s2 Bw.size
        have q3 : cb < wr.heap.size := Nat.lt_of_lt_of_le s3 Bw.size
        have HE := Lib.hid (hstep k hlt)
        have t0 := hsz k (by omega)
        have t3 := hsz (k + 1) (by omega)
        rw [HE.out] at t3
        generalize x.st.getD k 0 = A1 at *
        generalize x.bo.getD k 0 = A2 at *
        generalize x.cu.getD k 0 = A3 at *
        have d20 : ∀ W, Calls Tryd.prog 31 #[.int .i64 A1, .int .i64 1] W fun e w' => e = .returned (.string (numL A1 1)) ∧ Below W.heap.size W w' := fun W => num10_any A1 1 W
        have d21 : ∀ W, Calls Tryd.prog 31 #[.int .i64 A2, .int .i64 6] W fun e w' => e = .returned (.string (numL A2 6)) ∧ Below W.heap.size W w' := fun W => num10_any A2 6 W
        have d22 : ∀ W, Calls Tryd.prog 31 #[.int .i64 A3, .int .i64 1] W fun e w' => e = .returned (.string (numL A3 1)) ∧ Below W.heap.size W w' := fun W => num10_any A3 1 W
        have z1 := numL_size A1 1 (by decide)
        have z2 := numL_size A2 6 (by decide)
        have z3 := numL_size A3 1 (by decide)
        rw [show ((1 : Nat) : Int) = 1 from rfl] at z1 z3
        rw [show ((6 : Nat) : Int) = 6 from rfl] at z2
        generalize numL A1 1 = N1 at *
        generalize numL A2 6 = N2 at *
        generalize numL A3 1 = N3 at *
        generalize layTo x k = S at *
        clear k1 k2 k3 hstep hsz g1 g2 g3 t3
        have ⟨e0, e1, e2, e3, e4, e5, e6, e7, e8, elt⟩ := hA4
        go_wp2_with (fail)
        refine wp_region_cls (Below wr.heap.size wr) (by kernel_rfl) (by kernel_rfl) (Below.refl _ _).drew ?_
        intro Z f hne hD hE
        obtain ⟨i0, i1, i2, i3, i4, i5, i6, i7, i8⟩ := hA4.cls hD
        have j1 : ∀ z, (f z).cell? ⟨sb, so + k, none⟩ = _ := fun z => (clsCell hD z _ _ q1).trans m1
        have j2 : ∀ z, (f z).cell? ⟨bb, bo + k, none⟩ = _ := fun z => (clsCell hD z _ _ q2).trans m2
        have j3 : ∀ z, (f z).cell? ⟨cb, co + k, none⟩ = _ := fun z => (clsCell hD z _ _ q3).trans m3
        clear e0 e1 e2 e3 e4 e5 e6 e7 e8 m1 m2 m3 hA4
        iterate 23 (go_big_quiet_step (first | (go_at_call 31; with_reducible exact toQB hD hE _ (d20 _)) | (go_at_call 31; with_reducible exact toQB hD hE _ (d21 _)) | (go_at_call 31; with_reducible exact toQB hD hE _ (d22 _))))
        refine wpQuiet_nil ?_
        intro _ hw'
        obtain ⟨zq, hw''⟩ := hw'
        subst hw''
        have hB4 := hB.trans ((hD zq).mono hBs)
        clear i0 i1 i2 i3 i4 i5 i6 i7 i8 j1 j2 j3
        go_wp2_with (fail)
        go_roundw
        case rel => exact ⟨k + 1, by omega, by go_num, by rw [HE.out], hB4⟩
        case measure => simp [intOf]; omega
      · obtain rfl : k = n := by omega
        have y1 : ¬ ((k : Int) < (k : Int)) := by omega
        have ⟨e0, e1, e2, e3, e4, e5, e6, e7, e8, elt⟩ := hA4
        have B4 := below_c B3 hB
        clear hstep hsz
        go_wp2_with (fail)
        go_ret2
        exact ⟨by rw [hz.out.1, hz.out.2]; rfl, B4⟩
end Go.Proofs.YtaopknddpagjeaaDoor
