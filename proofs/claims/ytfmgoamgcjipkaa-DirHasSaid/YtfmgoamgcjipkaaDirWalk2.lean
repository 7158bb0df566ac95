/- dir: Right. -/
import Derived.Test.YtfmgoamgcjipkaaDirWalk1
import Derived.Laws.Cover1
namespace Go.Proofs.Ytfmgoamgcjipkaa
open Go.RowKit
set_option linter.unusedVariables false
set_option linter.unusedSimpArgs false
open Dr

/-- Volumes as they lie. -/
theorem items3 {w : World} {v : Value} {l : List Vol} (h : ReadsE volE w v l) : ∃ a cap, v = .slice a l.length cap ∧ ∀ i, i < l.length → ∃ cb co, a = some ⟨cb, co, none⟩ ∧ cb < w.heap.size ∧ ∀ W, Below w.heap.size w W →
    W.cell? ⟨cb, co + i * 3, none⟩ = some (.string (at_ l i).n) ∧ W.cell? ⟨cb, co + i * 3 + 1, none⟩ = some (.int .i64 (at_ l i).s) ∧ W.cell? ⟨cb, co + i * 3 + 2, none⟩ = some (.int .i64 (at_ l i).r) := by
  obtain ⟨a, cap, h1, h2⟩ := h.items
  refine ⟨a, cap, h1, fun i hi => ?_⟩
  obtain ⟨cb, co, e1, e2, e3⟩ := h2 i hi
  refine ⟨cb, co, e1, e2, fun W hW => ?_⟩
  have k : ∀ j, j < 3 → W.cell? ⟨cb, co + (i * 3 + j), none⟩ = (Vol.cells l[i])[j]? := fun j hj => by
    rw [hW.cell (p := ⟨cb, co + (i * 3 + j), none⟩) e2]; exact e3 j hj
  rw [at_get hi]
  exact ⟨by have := k 0 (by decide); simpa [Vol.cells] using this, by have := k 1 (by decide); simpa [Vol.cells, Nat.add_assoc] using this, by have := k 2 (by decide); simpa [Vol.cells, Nat.add_assoc] using this⟩
def VolsOk (l : List Vol) : Prop := ∀ i, i < l.length → (at_ l i).n.size ≤ 140737488351232
theorem le_eq (a b : ByteArray) : (Op.bytesLess a.toList b.toList || a.toList == b.toList) = !lt b a := le_lt a b
theorem gt_of {a b : ByteArray} (h : lt b a = true) : Op.bytesLess a.toList b.toList = false ∧ (a.toList == b.toList) = false := by
  have := le_lt a b
  rw [h] at this
  unfold lt at this
  rw [Bool.not_true, Bool.or_eq_false_iff] at this
  exact this
theorem le_of {a b : ByteArray} (h : lt b a = false) : (Op.bytesLess a.toList b.toList = true ∧ (a.toList == b.toList) = false) ∨ (Op.bytesLess a.toList b.toList = false ∧ (a.toList == b.toList) = true) := by
  have := le_lt a b
  rw [h] at this
  unfold lt at this
  rw [Bool.not_false] at this
  cases e : (a.toList == b.toList) with
  | false => rw [e, Bool.or_false] at this; exact .inl ⟨this, rfl⟩
  | true =>
    refine .inr ⟨?_, rfl⟩
    rw [beq_iff_eq] at e
    rw [e]; exact bl_irr _
def Tells (w : World) (v : Value) (e : Ending) (w' : World) : Prop := e = .returned v ∧ Below w.heap.size w w'
theorem okB_parts (blocks : Int) (l : List Vol) (i : Nat) : okB blocks l i = ((decide (i = 0) || lt (at_ l (i - 1)).n (at_ l i).n) && (nameB (at_ l i).n && (decide (0 ≤ (at_ l i).s ∧ (at_ l i).s ≤ 4096) && rootB blocks (at_ l i).r))) := rfl
set_option maxRecDepth 100000 in
set_option maxHeartbeats 8000000 in
theorem dright_any (b : Int) (v : Value) (l : List Vol) (w : World) (hR : ReadsE volE w v l) (hs : VolsOk l) : Calls Try.prog 9 #[.int .i64 b, v] w (Tells w (.bool (rightB b l))) := by
  obtain ⟨a, cap, rfl, cl⟩ := items3 hR
  clear hR
  by_cases h1 : 8 ≤ b
  rotate_left
  · have hz : Hid (rightB b l = false) := Lib.hid (by unfold rightB limB; rw [decide_eq_false (by omega)]; rfl)
    have t1 : decide (b < 8) = true := by rw [decide_eq_true_eq]; omega
    clear h1
    go_enter Try.func9, Try.ntmps9
    go_wp2
    go_ret
    exact ⟨by rw [hz.out]; rfl, Below.refl _ _⟩
  have t1 : decide (b < 8) = false := by rw [decide_eq_false_iff_not]; omega
  by_cases h2 : b ≤ 200
  rotate_left
  · have hz : Hid (rightB b l = false) := Lib.hid (by unfold rightB limB; rw [decide_eq_false (by omega)]; rfl)
    have t2 : decide (200 < b) = true := by rw [decide_eq_true_eq]; omega
    clear h1 h2
    go_enter Try.func9, Try.ntmps9
    go_wp2
    go_ret
    exact ⟨by rw [hz.out]; rfl, Below.refl _ _⟩
  have t2 : decide (200 < b) = false := by rw [decide_eq_false_iff_not]; omega
  by_cases h3 : l.length ≤ 8
  rotate_left
  · have hz : Hid (rightB b l = false) := Lib.hid (by unfold rightB limB; rw [decide_eq_false (by omega)]; rfl)
    have t3 : decide ((8 : Int) < (l.length : Int)) = true := by rw [decide_eq_true_eq]; omega
    clear h1 h2 h3
    go_enter Try.func9, Try.ntmps9
    go_wp2
    go_ret
    exact ⟨by rw [hz.out]; rfl, Below.refl _ _⟩
  have t3 : decide ((8 : Int) < (l.length : Int)) = false := by rw [decide_eq_false_iff_not]; omega
  have hn : Hid (rightB b l = okTo b l l.length) := Lib.hid (by unfold rightB limB; rw [decide_eq_true ⟨h1, h2, h3⟩, Bool.true_and])
  clear h1 h2
  have inm := fun s W h => isname_any s W h
  go_enter Try.func9, Try.ntmps9
  go_wp2
  go_loopw [20] (fun i wr => ∃ k : Nat, k ≤ l.length ∧ i = .int .i64 (k : Int) ∧ okTo b l k = true ∧ Below w.heap.size w wr) (fun i _ => l.length - (intOf i).toNat)
  case atStart => exact ⟨0, by omega, rfl, rfl, Below.refl _ _⟩
  case round =>
    obtain ⟨k, hk, rfl, hc, hB⟩ := hrel
    rename World => wr
    have hBs := hB.size
    by_cases hlt : k < l.length
    · have x1 : (k : Int) < (l.length : Int) := by omega
      obtain ⟨cb, co, rfl, hcb, hcl⟩ := cl k hlt
      obtain ⟨c0, c1, c2⟩ := hcl wr hB
      have hbox := hB.alloc hBs (.cells #[.string (at_ l k).n, .int .i64 (at_ l k).s, .int .i64 (at_ l k).r] 24)
      have hsn := hs k hlt
      have hcb' : cb < wr.heap.size := by omega
      have hbad : okB b l k = false → Hid (rightB b l = false) := fun h => Lib.hid (by rw [hn.out]; exact all_bad hlt h)
      have hgood : okB b l k = true → okTo b l (k + 1) = true := fun h => by rw [okTo_succ, hc, h]; rfl
      rw [okB_parts] at hbad hgood
      have hsn := Nat.le_trans hsn (show 140737488351232 ≤ 140737488355328 by decide)
      have hprev : k = 0 ∨ ∃ j, j = k - 1 ∧ j + 1 = k := by cases k with | zero => exact .inl rfl | succ j => exact .inr ⟨j, rfl, rfl⟩
      rcases hprev with hk0 | ⟨j, hj', hj⟩
      · have y1 : decide ((0 : Int) < (k : Int)) = false := by rw [decide_eq_false_iff_not]; omega
        have y1n : decide (0 < k) = false := by rw [decide_eq_false_iff_not]; omega
        have hk0H := Lib.hid hk0
        clear hk0
        cases g1 : nameB (at_ l k).n with
        | false =>
          have hz := hbad (by rw [g1]; simp)
          have inm := fun W => g1 ▸ inm (at_ l k).n W hsn
          clear hbad hgood
          go_wp2_with (fail)
          go_quiet (first | (go_at_call 21; exact Calls.quiet_of_same ((inm _).mono fun _ _ h => ⟨h.1, h.2.symm⟩)) | (go_at_call 29; exact Calls.quiet_of_same ((isroot_any _ _ _).mono fun _ _ h => ⟨h.1, h.2.symm⟩)))
          go_wp2_with (fail)
          go_ret
          exact ⟨by rw [hz.out]; rfl, (by first | exact hbox.trans ((drew_below _ _).mono (by simp; omega)) | exact hbox)⟩
        | true =>
          have inm := fun W => g1 ▸ inm (at_ l k).n W hsn
          by_cases g2 : (at_ l k).s < 0
          · have u2 : decide ((at_ l k).s < 0) = true := decide_eq_true g2
            have hz := hbad (by rw [decide_eq_false (show ¬ (0 ≤ (at_ l k).s ∧ (at_ l k).s ≤ 4096) by omega)]; simp)
            clear hbad hgood g2
            go_wp2_with (fail)
            go_quiet (first | (go_at_call 21; exact Calls.quiet_of_same ((inm _).mono fun _ _ h => ⟨h.1, h.2.symm⟩)) | (go_at_call 29; exact Calls.quiet_of_same ((isroot_any _ _ _).mono fun _ _ h => ⟨h.1, h.2.symm⟩)))
            go_wp2_with (fail)
            go_ret
            exact ⟨by rw [hz.out]; rfl, (by first | exact hbox.trans ((drew_below _ _).mono (by simp; omega)) | exact hbox)⟩
          have u2 : decide ((at_ l k).s < 0) = false := decide_eq_false g2
          by_cases g3 : 4096 < (at_ l k).s
          · have u3 : decide (4096 < (at_ l k).s) = true := decide_eq_true g3
            have hz := hbad (by rw [decide_eq_false (show ¬ (0 ≤ (at_ l k).s ∧ (at_ l k).s ≤ 4096) by omega)]; simp)
            clear hbad hgood g2 g3
            go_wp2_with (fail)
            go_quiet (first | (go_at_call 21; exact Calls.quiet_of_same ((inm _).mono fun _ _ h => ⟨h.1, h.2.symm⟩)) | (go_at_call 29; exact Calls.quiet_of_same ((isroot_any _ _ _).mono fun _ _ h => ⟨h.1, h.2.symm⟩)))
            go_wp2_with (fail)
            go_ret
            exact ⟨by rw [hz.out]; rfl, (by first | exact hbox.trans ((drew_below _ _).mono (by simp; omega)) | exact hbox)⟩
          have u3 : decide (4096 < (at_ l k).s) = false := decide_eq_false g3
          cases g4 : rootB b (at_ l k).r with
          | false =>
            have hz := hbad (by rw [g4]; simp)
            clear hbad hgood g2 g3
            go_wp2_with (fail)
            go_quiet (first | (go_at_call 21; exact Calls.quiet_of_same ((inm _).mono fun _ _ h => ⟨h.1, h.2.symm⟩)) | (go_at_call 29; exact Calls.quiet_of_same ((g4 ▸ isroot_any _ _ _).mono fun _ _ h => ⟨h.1, h.2.symm⟩)))
            go_wp2_with (fail)
            go_ret
            exact ⟨by rw [hz.out]; rfl, (by first | exact hbox.trans ((drew_below _ _).mono (by simp; omega)) | exact hbox)⟩
          | true =>
            have hz := hgood (by rw [decide_eq_true hk0H.out, g1, decide_eq_true (show 0 ≤ (at_ l k).s ∧ (at_ l k).s ≤ 4096 by omega), g4]; rfl)
            clear hbad hgood g2 g3
            go_wp2_with (fail)
            go_quiet (first | (go_at_call 21; exact Calls.quiet_of_same ((inm _).mono fun _ _ h => ⟨h.1, h.2.symm⟩)) | (go_at_call 29; exact Calls.quiet_of_same ((g4 ▸ isroot_any _ _ _).mono fun _ _ h => ⟨h.1, h.2.symm⟩)))
            go_wp2_with (fail)
            go_roundw
            case rel => exact ⟨k + 1, by omega, by go_num, hz, (by first | exact hbox.trans ((drew_below _ _).mono (by simp; omega)) | exact hbox)⟩
            case measure => simp [intOf]; omega
      · obtain ⟨db, do_, ee, hdb, hdl⟩ := cl j (by omega)
        cases ee
        obtain ⟨d0, d1, d2⟩ := hdl _ hbox
        have y1 : ((0 : Int) < (k : Int)) := by omega
        have y1n : decide (0 < k) = true := by rw [decide_eq_true_eq]; omega
        have y2 : IntKind.i64.wrap ((k : Int) - 1) = (j : Int) := by rw [IntWalk.i64_in _ (by omega)]; omega
        have y3 : (j : Int) < (l.length : Int) := by omega
        have hle := le_eq (at_ l k).n (at_ l j).n
        rw [← hj'] at hbad hgood
        have hk1 := Lib.hid (show ¬ k = 0 by omega)
        clear hj' hj
        cases g1 : nameB (at_ l k).n with
        | false =>
          have hz := hbad (by rw [g1]; simp)
          have inm := fun W => g1 ▸ inm (at_ l k).n W hsn
          clear hbad hgood
          go_wp2_with (fail)
          go_quiet (first | (go_at_call 21; exact Calls.quiet_of_same ((inm _).mono fun _ _ h => ⟨h.1, h.2.symm⟩)) | (go_at_call 29; exact Calls.quiet_of_same ((isroot_any _ _ _).mono fun _ _ h => ⟨h.1, h.2.symm⟩)))
          go_wp2_with (fail)
          go_ret
          exact ⟨by rw [hz.out]; rfl, (by first | exact hbox.trans ((drew_below _ _).mono (by simp; omega)) | exact hbox)⟩
        | true =>
          have inm := fun W => g1 ▸ inm (at_ l k).n W hsn
          clear hle
          cases g0 : lt (at_ l j).n (at_ l k).n with
          | false =>
            have hz := hbad (by rw [g0, decide_eq_false hk1.out]; rfl)
            clear hbad hgood
            rcases le_of g0 with ⟨m1, m2⟩ | ⟨m1, m2⟩
            · go_wp2_with (fail)
              go_quiet (first | (go_at_call 21; exact Calls.quiet_of_same ((inm _).mono fun _ _ h => ⟨h.1, h.2.symm⟩)) | (go_at_call 29; exact Calls.quiet_of_same ((isroot_any _ _ _).mono fun _ _ h => ⟨h.1, h.2.symm⟩)))
              go_wp2_with (fail)
              go_ret
              exact ⟨by rw [hz.out]; rfl, (by first | exact hbox.trans ((drew_below _ _).mono (by simp; omega)) | exact hbox)⟩
            · go_wp2_with (fail)
              go_quiet (first | (go_at_call 21; exact Calls.quiet_of_same ((inm _).mono fun _ _ h => ⟨h.1, h.2.symm⟩)) | (go_at_call 29; exact Calls.quiet_of_same ((isroot_any _ _ _).mono fun _ _ h => ⟨h.1, h.2.symm⟩)))
              go_wp2_with (fail)
              go_ret
              exact ⟨by rw [hz.out]; rfl, (by first | exact hbox.trans ((drew_below _ _).mono (by simp; omega)) | exact hbox)⟩
          | true =>
            obtain ⟨m1, m2⟩ := gt_of g0
            rw [g0, Bool.or_true] at hgood
            by_cases g2 : (at_ l k).s < 0
            · have u2 : decide ((at_ l k).s < 0) = true := decide_eq_true g2
              have hz := hbad (by rw [decide_eq_false (show ¬ (0 ≤ (at_ l k).s ∧ (at_ l k).s ≤ 4096) by omega)]; simp)
              clear hbad hgood g2
              go_wp2_with (fail)
              go_quiet (first | (go_at_call 21; exact Calls.quiet_of_same ((inm _).mono fun _ _ h => ⟨h.1, h.2.symm⟩)) | (go_at_call 29; exact Calls.quiet_of_same ((isroot_any _ _ _).mono fun _ _ h => ⟨h.1, h.2.symm⟩)))
              go_wp2_with (fail)
              go_ret
              exact ⟨by rw [hz.out]; rfl, (by first | exact hbox.trans ((drew_below _ _).mono (by simp; omega)) | exact hbox)⟩
            have u2 : decide ((at_ l k).s < 0) = false := decide_eq_false g2
            by_cases g3 : 4096 < (at_ l k).s
            · have u3 : decide (4096 < (at_ l k).s) = true := decide_eq_true g3
              have hz := hbad (by rw [decide_eq_false (show ¬ (0 ≤ (at_ l k).s ∧ (at_ l k).s ≤ 4096) by omega)]; simp)
              clear hbad hgood g2 g3
              go_wp2_with (fail)
              go_quiet (first | (go_at_call 21; exact Calls.quiet_of_same ((inm _).mono fun _ _ h => ⟨h.1, h.2.symm⟩)) | (go_at_call 29; exact Calls.quiet_of_same ((isroot_any _ _ _).mono fun _ _ h => ⟨h.1, h.2.symm⟩)))
              go_wp2_with (fail)
              go_ret
              exact ⟨by rw [hz.out]; rfl, (by first | exact hbox.trans ((drew_below _ _).mono (by simp; omega)) | exact hbox)⟩
            have u3 : decide (4096 < (at_ l k).s) = false := decide_eq_false g3
            cases g4 : rootB b (at_ l k).r with
            | false =>
              have hz := hbad (by rw [g4]; simp)
              clear hbad hgood g2 g3
              go_wp2_with (fail)
              go_quiet (first | (go_at_call 21; exact Calls.quiet_of_same ((inm _).mono fun _ _ h => ⟨h.1, h.2.symm⟩)) | (go_at_call 29; exact Calls.quiet_of_same ((g4 ▸ isroot_any _ _ _).mono fun _ _ h => ⟨h.1, h.2.symm⟩)))
              go_wp2_with (fail)
              go_ret
              exact ⟨by rw [hz.out]; rfl, (by first | exact hbox.trans ((drew_below _ _).mono (by simp; omega)) | exact hbox)⟩
            | true =>
              have hz := hgood (by rw [ g1, decide_eq_true (show 0 ≤ (at_ l k).s ∧ (at_ l k).s ≤ 4096 by omega), g4]; rfl)
              clear hbad hgood g2 g3
              go_wp2_with (fail)
              go_quiet (first | (go_at_call 21; exact Calls.quiet_of_same ((inm _).mono fun _ _ h => ⟨h.1, h.2.symm⟩)) | (go_at_call 29; exact Calls.quiet_of_same ((g4 ▸ isroot_any _ _ _).mono fun _ _ h => ⟨h.1, h.2.symm⟩)))
              go_wp2_with (fail)
              go_roundw
              case rel => exact ⟨k + 1, by omega, by go_num, hz, (by first | exact hbox.trans ((drew_below _ _).mono (by simp; omega)) | exact hbox)⟩
              case measure => simp [intOf]; omega
    · have x1 : ¬ ((k : Int) < (l.length : Int)) := by omega
      obtain rfl : k = l.length := by omega
      go_wp2_with (fail)
      go_ret
      exact ⟨by rw [hn.out, hc]; rfl, hB⟩
end Go.Proofs.Ytfmgoamgcjipkaa
