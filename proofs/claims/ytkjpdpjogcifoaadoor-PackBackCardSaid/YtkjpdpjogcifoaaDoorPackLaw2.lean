/- pack's laws: a text that is read in parts. -/
import Derived.Test.YtkjpdpjogcifoaaDoorPackLaw1
namespace Go.Proofs.YtkjpdpjogcifoaaDoor
open Go.RowKit
set_option linter.unusedVariables false
set_option linter.unusedSimpArgs false

/-- A list of numbers as it lies. -/
theorem Reads.ints {w : World} {v : Value} {l : List Int} {k : IntKind} (h : Reads w v (l.map (.int k))) : ∃ a cap, v = .slice a l.length cap ∧ ∀ i, i < l.length → ∃ cb co, a = some ⟨cb, co, none⟩ ∧ cb < w.heap.size ∧ w.cell? ⟨cb, co + i, none⟩ = some (.int k (l.getD i 0)) := by
  rcases h with ⟨rfl, e⟩ | ⟨b, off, cap, rfl, h1, h2⟩
  · have : l = [] := by simpa using e
    subst this
    exact ⟨none, 0, rfl, fun i hi => by simp at hi⟩
  · refine ⟨some ⟨b, off, none⟩, cap, by rw [List.length_map], fun i hi => ⟨b, off, rfl, h1, ?_⟩⟩
    rw [h2 i (by rw [List.length_map]; exact hi)]
    simp [List.getD_eq_getElem?_getD, hi]
theorem ext_list (s : ByteArray) (a b : Nat) : (s.extract a b).data.toList = (s.data.toList.take b).drop a := by
  simp [ByteArray.data_extract, List.drop_take]
theorem ext_zero (s : ByteArray) : s.extract 0 0 = ⟨#[]⟩ := by
  apply Go.WideShapes.bytes_inj; rw [ext_list]; simp
theorem cut_facts (s : ByteArray) {k p : Nat} (h : k + p ≤ s.size) : s.extract 0 k ++ (s.extract k s.size).extract 0 p = s.extract 0 (k + p) ∧ (s.extract k s.size).extract p (s.extract k s.size).size = s.extract (k + p) s.size := by
  have hl : s.data.toList.length = s.size := by simp
  have hz : (s.extract k s.size).size = s.size - k := by simp [ByteArray.size_extract]
  have ht : s.data.toList.take s.size = s.data.toList := List.take_of_length_le (by omega)
  constructor
  · apply Go.WideShapes.bytes_inj
    rw [ByteArray.data_append, Array.toList_append, ext_list, ext_list, ext_list, ext_list, ht, List.drop_zero, List.drop_zero, List.drop_zero, List.take_add]
  · apply Go.WideShapes.bytes_inj
    rw [ext_list, ext_list, ext_list, ht, hz, List.take_of_length_le (by rw [List.length_drop]; omega), List.drop_drop]
theorem ext_size (s : ByteArray) (k : Nat) : (s.extract k s.size).size = s.size - k := by simp [ByteArray.size_extract]
theorem txt_good (s : ByteArray) {n : Nat} (h : n ≤ s.size) : okT s false (n : Int) = true ∧ txtS s false (n : Int) = s.extract 0 n ∧ txtR s false (n : Int) = s.extract n s.size := by
  have hb : okT s false (n : Int) = true := by unfold okT; rw [decide_eq_true (by omega)]; rfl
  rw [txtS, txtR, hb]; exact ⟨rfl, rfl, rfl⟩
set_option maxRecDepth 100000 in
set_option maxHeartbeats 4000000 in
theorem pparts_walk (s : ByteArray) (vc : Value) (l : List Int) (w : World) (hs : s.size ≤ 140737488351232) (hR : Reads w vc (l.map (.int .i64))) (hx : ∀ i, i < l.length → -9223372036854775808 ≤ l.getD i 0 ∧ l.getD i 0 ≤ 9223372036854775807) (hl : l.length ≤ 140737488355328) :
    Calls Tryd.prog 8 #[.string s, vc] w fun e w' => e = .returned (.bool true) ∧ Below w.heap.size w w' := by
  have len := fun W => hR.len_run (P := Tryd.prog) Tryd.underlying39 3 W
  rw [List.length_map] at len
  obtain ⟨ca, cc, rfl, hcell⟩ := hR.ints
  clear hR
  go_enter Tryd.func8, Tryd.ntmps8
  go_wp2_with (fail)
  refine (pawake_any _).mono ?_
  rintro e w1 ⟨rfl, b1⟩
  go_wp2_with (fail)
  refine (new_any s _).mono ?_
  rintro e w2 ⟨rfl, hw2⟩
  obtain ⟨b, hb⟩ : ∃ b, w1.heap.size = b := ⟨_, rfl⟩
  have r2 : RdAt w2 b s false := by rw [hw2, ← hb]; exact RdAt.made _ _ _
  have b2 : Below b w1 w2 := by rw [hw2, ← hb]; exact (Below.refl _ _).alloc (Nat.le_refl _) _
  rw [hb]
  clear hw2
  go_wp2_with (fail)
  go_loopw [7, 8] (fun o i wr => ∃ q k : Nat, q ≤ l.length ∧ i = .int .i64 (q : Int) ∧ k ≤ s.size ∧ o = .string (s.extract 0 k) ∧ RdAt wr b (s.extract k s.size) false ∧ Below b w1 wr) (fun _ i _ => l.length - (intOf i).toNat)
  case atStart => exact ⟨0, 0, by omega, rfl, by omega, by rw [ext_zero], by rw [show s.extract 0 s.size = s by simp]; exact r2, b2⟩
  case round =>
    obtain ⟨q, k, hq, rfl, hk, rfl, hr, hB⟩ := hrel
    have hez := ext_size s k
    by_cases hlt : q < l.length ∧ q < 200
    · obtain ⟨hl1, hl2⟩ := hlt
      have t1 : (q : Int) < (l.length : Int) := by omega
      have t2 : (q : Int) < 200 := by omega
      obtain ⟨cb, co, rfl, hcb, hcl⟩ := hcell q hl1
      have hcq : ∀ W, Below b w1 W → W.cell? ⟨cb, co + q, none⟩ = some (.int .i64 (l.getD q 0)) := fun W hW => by
        have hz := b1.size
        rw [hW.cell (p := ⟨cb, co + q, none⟩) (by show cb < b; omega), b1.cell (p := ⟨cb, co + q, none⟩) hcb]; exact hcl
      obtain ⟨c, hc⟩ : ∃ c, l.getD q 0 = c := ⟨_, rfl⟩
      have hxq := hx q hl1
      rw [hc] at hcq hxq
      obtain ⟨p, hp, _, kp⟩ := pick_nat c (((s.extract k s.size).size : Nat) + 1 : Int) hxq.1 hxq.2 (by omega) (by omega)
      obtain ⟨g1, g2⟩ := cut_facts s (k := k) (p := p) (by omega)
      obtain ⟨o1, o2, o3⟩ := txt_good (s.extract k s.size) (n := p) (by omega)
      have hD : RdAt wr.drew b (s.extract k s.size) false := hr.heap rfl
      have hT := rdtext_any b (s.extract k s.size) false (p : Int) wr.drew hD (by omega)
      rw [o1, o2, o3, g2] at hT
      have hG := Lib.hid g1
      have z1 : (s.extract 0 k).size ≤ s.size := by rw [ByteArray.size_extract]; omega
      have z2 : ((s.extract k s.size).extract 0 p).size ≤ s.size := by rw [ByteArray.size_extract]; omega
      have hBD : Below b w1 wr.drew := hB.trans ⟨rfl, rfl, rfl, Nat.le_refl _, fun _ _ => rfl⟩
      have cr := hcq wr hB
      have cd := hcq wr.drew hBD
      have hwsz := hB.size
      have hbw : b ≤ wr.drew.heap.size := by show b ≤ wr.heap.size; omega
      have hkp : Hid (k + p ≤ s.size) := Lib.hid (by omega)
      have e9 : IntKind.i64.wrap (((s.extract k s.size).size : Int) + 1) = ((s.extract k s.size).size : Int) + 1 := IntWalk.i64_in _ ⟨by omega, by omega⟩
      clear g1 g2 o1 o2 o3 hc hx hez hcell hp hcl
      generalize (s.extract k s.size).extract 0 p = t at *
      generalize s.extract k s.size = rest at *
      generalize s.extract 0 k = out at *
      go_wp2_with (fail)
      go_region_with (first | (go_at_call 20; refine (left_any b rest false _ hD).mono ?_; rintro e w' ⟨rfl, rfl⟩) | (go_at_call 26; refine (kp _).mono ?_; rintro e w' ⟨rfl, rfl⟩) | (go_at_call 18; refine hT.mono ?_; rintro e w3 ⟨rfl, hr3⟩; have hB3 := hBD.trans (hr3.below (B := b) (Nat.le_refl _) hbw); have cd3 := hcq w3 hB3))
      all_goals
        go_wp2_with (fail)
        go_roundw
        case rel => exact ⟨q + 1, k + p, by omega, by go_num, hkp.out, by rw [hG.out], hr3.r, hB3⟩
        case measure => simp [intOf]; omega
    · have hsz := ext_size s k
      have hL := left_any b (s.extract k s.size) false wr hr
      obtain ⟨o1, o2, o3⟩ := txt_good (s.extract k s.size) (n := (s.extract k s.size).size) (Nat.le_refl _)
      have hT := rdtext_any b (s.extract k s.size) false ((s.extract k s.size).size : Int) wr hr (by omega)
      rw [o1, o2, o3] at hT
      have hG : Hid (s.extract 0 k ++ (s.extract k s.size).extract 0 (s.extract k s.size).size = s) := Lib.hid (by
        have := (cut_facts s (k := k) (p := s.size - k) (by omega)).1
        rw [hsz, this, show k + (s.size - k) = s.size by omega]; simp)
      have hE : (s.extract k s.size).extract (s.extract k s.size).size (s.extract k s.size).size = ⟨#[]⟩ := by
        apply Go.WideShapes.bytes_inj; rw [ext_list]; simp
      rw [hE] at hT
      have z1 : (s.extract 0 k).size ≤ s.size := by rw [ByteArray.size_extract]; omega
      have z2 : ((s.extract k s.size).extract 0 (s.extract k s.size).size).size ≤ s.size := by rw [ByteArray.size_extract]; omega
      have eqs : (s.toList == s.toList) = true := beq_self_eq_true _
      have hwsz := hB.size
      have hA : q < l.length → ¬ q < 200 := fun h1 h2 => hlt ⟨h1, h2⟩
      clear o1 o2 o3 hE hsz hlt hez
      generalize (s.extract k s.size).extract 0 (s.extract k s.size).size = t at *
      generalize s.extract k s.size = rest at *
      generalize s.extract 0 k = out at *
      have fin : ∀ W, RdTo wr b ⟨#[]⟩ false W → Below w.heap.size w W := fun W h => below_p b1 ((hB.trans (h.below (Nat.le_refl _) (by omega))).mono (by omega))
      by_cases h1 : q < l.length
      · have t1 : (q : Int) < (l.length : Int) := by omega
        have t2 : decide ((q : Int) < 200) = false := by rw [decide_eq_false_iff_not]; have := hA h1; omega
        clear hA
        go_wp2_with (fail)
        refine hL.mono ?_
        rintro e wq ⟨rfl, rfl⟩
        go_wp2_with (fail)
        refine hT.mono ?_
        rintro e w3 ⟨rfl, hr3⟩
        have hG2 := hG.out
        go_wp2_with (fail)
        refine (left_any b ⟨#[]⟩ false _ hr3.r).mono ?_
        rintro e wq ⟨rfl, rfl⟩
        go_wp2_with (fail)
        refine (ends_any b ⟨#[]⟩ false _ hr3.r (by decide)).mono ?_
        intro e w4 h4
        obtain ⟨rfl, b4, _⟩ := h4.to
        go_wp2_with (fail)
        go_ret
        exact ⟨rfl, below_p (fin _ hr3) b4⟩
      · have t1 : decide (q < l.length) = false := by rw [decide_eq_false_iff_not]; exact h1
        clear hA
        go_wp2_with (fail)
        refine hL.mono ?_
        rintro e wq ⟨rfl, rfl⟩
        go_wp2_with (fail)
        refine hT.mono ?_
        rintro e w3 ⟨rfl, hr3⟩
        have hG2 := hG.out
        go_wp2_with (fail)
        refine (left_any b ⟨#[]⟩ false _ hr3.r).mono ?_
        rintro e wq ⟨rfl, rfl⟩
        go_wp2_with (fail)
        refine (ends_any b ⟨#[]⟩ false _ hr3.r (by decide)).mono ?_
        intro e w4 h4
        obtain ⟨rfl, b4, _⟩ := h4.to
        go_wp2_with (fail)
        go_ret
        exact ⟨rfl, below_p (fin _ hr3) b4⟩
end Go.Proofs.YtkjpdpjogcifoaaDoor
