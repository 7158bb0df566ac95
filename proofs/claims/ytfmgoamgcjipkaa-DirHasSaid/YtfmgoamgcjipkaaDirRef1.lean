/- dir: the document's own IsName and Right. -/
import Derived.Test.YtfmgoamgcjipkaaDirWalk2
import Derived.Laws.Cover1
namespace Go.Proofs.Ytfmgoamgcjipkaa
open Go.RowKit
set_option linter.unusedVariables false
set_option linter.unusedSimpArgs false
open Dr

def letB (c : Nat) : Bool := isL c
set_option maxRecDepth 100000 in
set_option maxHeartbeats 8000000 in
theorem risname_any (s : ByteArray) (w : World) (hs : s.size ≤ 140737488355328) : Calls Try.prog 22 #[.string s] w (SaysB w (nameB s)) := by
  by_cases h1 : 1 ≤ s.size
  rotate_left
  · have hz : Hid (nameB s = false) := Lib.hid (by unfold nameB; rw [decide_eq_false (by omega)]; rfl)
    have t1 : decide ((s.size : Int) < 1) = true := by rw [decide_eq_true_eq]; omega
    clear h1
    go_enter Try.func22, Try.ntmps22
    go_wp2
    go_ret
    exact ⟨by rw [hz.out]; rfl, rfl⟩
  have t1 : decide ((s.size : Int) < 1) = false := by rw [decide_eq_false_iff_not]; omega
  by_cases h2 : s.size ≤ 6
  rotate_left
  · have hz : Hid (nameB s = false) := Lib.hid (by unfold nameB; rw [decide_eq_false (by omega)]; rfl)
    have t2 : decide ((6 : Int) < (s.size : Int)) = true := by rw [decide_eq_true_eq]; omega
    clear h1 h2
    go_enter Try.func22, Try.ntmps22
    go_wp2
    go_ret
    exact ⟨by rw [hz.out]; rfl, rfl⟩
  have t2 : decide ((6 : Int) < (s.size : Int)) = false := by rw [decide_eq_false_iff_not]; omega
  have hn : Hid (nameB s = (isL (byN s 0) && chTo s s.size)) := Lib.hid (by unfold nameB; rw [decide_eq_true ⟨h1, h2⟩]; rfl)
  have h1H := Lib.hid h1
  clear h1 h2
  go_enter Try.func22, Try.ntmps22
  go_wp2
  go_loopw [3] (fun i wr => ∃ k : Nat, k ≤ s.size ∧ i = .int .i64 (k : Int) ∧ chTo s k = true ∧ (0 < k → isL (byN s 0) = true) ∧ wr = w) (fun i _ => s.size - (intOf i).toNat)
  case atStart => exact ⟨0, by omega, rfl, rfl, (fun h => absurd h (by decide)), rfl⟩
  case round =>
    obtain ⟨k, hk, rfl, hc, hf, rfl⟩ := hrel
    rename World => w
    by_cases hlt : k < s.size
    · have x1 : (k : Int) < (s.size : Int) := by omega
      have ik : ∀ W, (Instr.index 9 (.string s) (.int .i64 (k : Int))).run Try.prog W = .ok (.int .u8 ((byN s k : Nat) : Int)) W := fun W => str_byN s k hlt W
      have hL : isL (byN s k) = decide (97 ≤ byN s k ∧ byN s k ≤ 122) := rfl
      have hD : isD (byN s k) = decide (48 ≤ byN s k ∧ byN s k ≤ 57) := rfl
      have hok : chB s k = true → chTo s (k + 1) = true := fun h => by rw [chTo_succ, hc, h]; rfl
      have hno : chB s k = false → chTo s s.size = false := fun h => all_bad hlt h
      have hch : chB s k = (isL (byN s k) || isD (byN s k)) := rfl
      have hff : isL (byN s k) = true → (0 < k + 1 → isL (byN s 0) = true) := fun h _ => by
        by_cases e : k = 0
        · rw [← e]; exact h
        · exact hf (by omega)
      obtain ⟨c, hcc⟩ : ∃ c, byN s k = c := ⟨_, rfl⟩
      rw [hcc] at ik hL hD hch hff
      have hcH := Lib.hid hcc
      clear hcc
      by_cases a1 : 97 ≤ c
      · have b1 : decide ((97 : Int) ≤ (c : Int)) = true := by rw [decide_eq_true_eq]; omega
        have d1 : decide ((48 : Int) ≤ (c : Int)) = true := by rw [decide_eq_true_eq]; omega
        have d2 : decide ((c : Int) ≤ 57) = false := by rw [decide_eq_false_iff_not]; omega
        by_cases a2 : c ≤ 122
        · have b2 : decide ((c : Int) ≤ 122) = true := by rw [decide_eq_true_eq]; omega
          have vL : isL c = true := by rw [hL]; exact decide_eq_true (by omega)
          have vD : isD c = false := by rw [hD]; exact decide_eq_false (by omega)
          rw [vL, vD] at hch
          have hz := hok hch
          have hf1 := hff vL
          clear hL hD hok hno hch hff vL vD
          go_wp2
          go_roundw
          case rel => exact ⟨k + 1, by omega, by go_num, hz, hf1, trivial⟩
          case measure => simp [intOf]; omega
        have b2 : decide ((c : Int) ≤ 122) = false := by rw [decide_eq_false_iff_not]; omega
        have vL : isL c = false := by rw [hL]; exact decide_eq_false (by omega)
        have vD : isD c = false := by rw [hD]; exact decide_eq_false (by omega)
        rw [vL, vD] at hch
        have hz := Lib.hid (hno hch)
        clear hL hD hok hno hch hff vL vD
        go_wp2
        go_ret
        exact ⟨by rw [hn.out, hz.out, Bool.and_false]; rfl, rfl⟩
      have b1 : decide ((97 : Int) ≤ (c : Int)) = false := by rw [decide_eq_false_iff_not]; omega
      by_cases a3 : 48 ≤ c
      · have d1 : decide ((48 : Int) ≤ (c : Int)) = true := by rw [decide_eq_true_eq]; omega
        by_cases a4 : c ≤ 57
        · have d2 : decide ((c : Int) ≤ 57) = true := by rw [decide_eq_true_eq]; omega
          have vL : isL c = false := by rw [hL]; exact decide_eq_false (by omega)
          have vD : isD c = true := by rw [hD]; exact decide_eq_true (by omega)
          rw [vL, vD] at hch
          by_cases k0 : k = 0
          · have e0 : ((k : Int) == 0) = true := by rw [beq_iff_eq]; omega
            have e0n : (k == 0) = true := by rw [beq_iff_eq]; exact k0
            have hz : Hid (isL (byN s 0) = false) := Lib.hid (by rw [← k0, hcH.out]; exact vL)
            clear hL hD hok hno hch hff vL vD k0
            go_wp2
            go_ret
            exact ⟨by rw [hn.out, hz.out]; rfl, rfl⟩
          have e0 : ((k : Int) == 0) = false := by rw [beq_eq_false_iff_ne]; omega
          have e0n : (k == 0) = false := by rw [beq_eq_false_iff_ne]; exact k0
          have hz := hok hch
          have hf0 := hf (by omega)
          clear hL hD hok hno hch hff vL vD
          go_wp2
          go_roundw
          case rel => exact ⟨k + 1, by omega, by go_num, hz, (fun _ => hf0), trivial⟩
          case measure => simp [intOf]; omega
        have d2 : decide ((c : Int) ≤ 57) = false := by rw [decide_eq_false_iff_not]; omega
        have vL : isL c = false := by rw [hL]; exact decide_eq_false (by omega)
        have vD : isD c = false := by rw [hD]; exact decide_eq_false (by omega)
        rw [vL, vD] at hch
        have hz := Lib.hid (hno hch)
        clear hL hD hok hno hch hff vL vD
        go_wp2
        go_ret
        exact ⟨by rw [hn.out, hz.out, Bool.and_false]; rfl, rfl⟩
      have d1 : decide ((48 : Int) ≤ (c : Int)) = false := by rw [decide_eq_false_iff_not]; omega
      have vL : isL c = false := by rw [hL]; exact decide_eq_false (by omega)
      have vD : isD c = false := by rw [hD]; exact decide_eq_false (by omega)
      rw [vL, vD] at hch
      have hz := Lib.hid (hno hch)
      clear hL hD hok hno hch hff vL vD
      go_wp2
      go_ret
      exact ⟨by rw [hn.out, hz.out, Bool.and_false]; rfl, rfl⟩
    · have x1 : ¬ ((k : Int) < (s.size : Int)) := by omega
      obtain rfl : k = s.size := by omega
      have hff := hf h1H.out
      go_wp2_with (fail)
      go_ret
      exact ⟨by rw [hn.out, hc, hff]; rfl, rfl⟩
set_option maxRecDepth 100000 in
set_option maxHeartbeats 8000000 in
theorem rright_any (b : Int) (v : Value) (l : List Vol) (w : World) (hR : ReadsE volE w v l) (hs : VolsOk l) : Calls Try.prog 23 #[.int .i64 b, v] w (Tells w (.bool (rightB b l))) := by
  obtain ⟨a, cap, rfl, cl⟩ := items3 hR
  clear hR
  by_cases h1 : 8 ≤ b
  rotate_left
  · have hz : Hid (rightB b l = false) := Lib.hid (by unfold rightB limB; rw [decide_eq_false (by omega)]; rfl)
    have t1 : decide (b < 8) = true := by rw [decide_eq_true_eq]; omega
    clear h1
    go_enter Try.func23, Try.ntmps23
    go_wp2
    go_ret
    exact ⟨by rw [hz.out]; rfl, Below.refl _ _⟩
  have t1 : decide (b < 8) = false := by rw [decide_eq_false_iff_not]; omega
  by_cases h2 : b ≤ 200
  rotate_left
  · have hz : Hid (rightB b l = false) := Lib.hid (by unfold rightB limB; rw [decide_eq_false (by omega)]; rfl)
    have t2 : decide (200 < b) = true := by rw [decide_eq_true_eq]; omega
    clear h1 h2
    go_enter Try.func23, Try.ntmps23
    go_wp2
    go_ret
    exact ⟨by rw [hz.out]; rfl, Below.refl _ _⟩
  have t2 : decide (200 < b) = false := by rw [decide_eq_false_iff_not]; omega
  by_cases h3 : l.length ≤ 8
  rotate_left
  · have hz : Hid (rightB b l = false) := Lib.hid (by unfold rightB limB; rw [decide_eq_false (by omega)]; rfl)
    have t3 : decide ((8 : Int) < (l.length : Int)) = true := by rw [decide_eq_true_eq]; omega
    clear h1 h2 h3
    go_enter Try.func23, Try.ntmps23
    go_wp2
    go_ret
    exact ⟨by rw [hz.out]; rfl, Below.refl _ _⟩
  have t3 : decide ((8 : Int) < (l.length : Int)) = false := by rw [decide_eq_false_iff_not]; omega
  have hn : Hid (rightB b l = okTo b l l.length) := Lib.hid (by unfold rightB limB; rw [decide_eq_true ⟨h1, h2, h3⟩, Bool.true_and])
  clear h1 h2
  have inm := fun s W h => risname_any s W h
  go_enter Try.func23, Try.ntmps23
  go_wp2
  go_loopw [5] (fun i wr => ∃ k : Nat, k ≤ l.length ∧ i = .int .i64 (k : Int) ∧ okTo b l k = true ∧ Below w.heap.size w wr) (fun i _ => l.length - (intOf i).toNat)
  case atStart => exact ⟨0, by omega, rfl, rfl, Below.refl _ _⟩
  case round =>
    obtain ⟨k, hk, rfl, hc, hB⟩ := hrel
    rename World => wr
    have hBs := hB.size
    by_cases hlt : k < l.length
    · have x1 : (k : Int) < (l.length : Int) := by omega
      obtain ⟨cb, co, rfl, hcb, hcl⟩ := cl k hlt
      obtain ⟨c0, c1, c2⟩ := hcl wr hB
      have hbox := hB.alloc hBs (.cells #[.string (at_ l k).n, .int .i64 (at_ l k).s, .int .i64 (at_ l k).r] 24)
      have hsn := hs k hlt
      have hcb' : cb < wr.heap.size := by omega
      have hbad : okB b l k = false → Hid (rightB b l = false) := fun h => Lib.hid (by rw [hn.out]; exact all_bad hlt h)
      have hgood : okB b l k = true → okTo b l (k + 1) = true := fun h => by rw [okTo_succ, hc, h]; rfl
      rw [okB_parts] at hbad hgood
      have hsn := Nat.le_trans hsn (show 140737488351232 ≤ 140737488355328 by decide)
      have hprev : k = 0 ∨ ∃ j, j = k - 1 ∧ j + 1 = k := by cases k with | zero => exact .inl rfl | succ j => exact .inr ⟨j, rfl, rfl⟩
      rcases hprev with hk0 | ⟨j, hj', hj⟩
      · have y1 : decide ((0 : Int) < (k : Int)) = false := by rw [decide_eq_false_iff_not]; omega
        have y1n : decide (0 < k) = false := by rw [decide_eq_false_iff_not]; omega
        have hk0H := Lib.hid hk0
        clear hk0
        cases g1 : nameB (at_ l k).n with
        | false =>
          have hz := hbad (by rw [g1]; simp)
          have inm := fun W => g1 ▸ inm (at_ l k).n W hsn
          clear hbad hgood
          go_wp2_with (first | (go_at_call 22; refine (inm _).mono ?_; rintro e w' ⟨rfl, rfl⟩))
          go_quiet (fail)
          go_wp2_with (fail)
          go_ret
          exact ⟨by rw [hz.out]; rfl, (by first | exact hbox.trans ((drew_below _ _).mono (by simp; omega)) | exact hbox)⟩
        | true =>
          have inm := fun W => g1 ▸ inm (at_ l k).n W hsn
          by_cases g2 : (at_ l k).s < 0
          · have u2 : decide ((at_ l k).s < 0) = true := decide_eq_true g2
            have hz := hbad (by rw [decide_eq_false (show ¬ (0 ≤ (at_ l k).s ∧ (at_ l k).s ≤ 4096) by omega)]; simp)
            clear hbad hgood g2
            go_wp2_with (first | (go_at_call 22; refine (inm _).mono ?_; rintro e w' ⟨rfl, rfl⟩))
            go_quiet (fail)
            go_wp2_with (fail)
            go_ret
            exact ⟨by rw [hz.out]; rfl, (by first | exact hbox.trans ((drew_below _ _).mono (by simp; omega)) | exact hbox)⟩
          have u2 : decide ((at_ l k).s < 0) = false := decide_eq_false g2
          by_cases g3 : 4096 < (at_ l k).s
          · have u3 : decide (4096 < (at_ l k).s) = true := decide_eq_true g3
            have hz := hbad (by rw [decide_eq_false (show ¬ (0 ≤ (at_ l k).s ∧ (at_ l k).s ≤ 4096) by omega)]; simp)
            clear hbad hgood g2 g3
            go_wp2_with (first | (go_at_call 22; refine (inm _).mono ?_; rintro e w' ⟨rfl, rfl⟩))
            go_quiet (fail)
            go_wp2_with (fail)
            go_ret
            exact ⟨by rw [hz.out]; rfl, (by first | exact hbox.trans ((drew_below _ _).mono (by simp; omega)) | exact hbox)⟩
          have u3 : decide (4096 < (at_ l k).s) = false := decide_eq_false g3
          by_cases g5 : (at_ l k).r = 0
          · have u5 : ((at_ l k).r != 0) = false := by simp [g5]
            have g4 : rootB b (at_ l k).r = true := decide_eq_true (.inl g5)
            have hz := hgood (by rw [decide_eq_true hk0H.out, g1, decide_eq_true (show 0 ≤ (at_ l k).s ∧ (at_ l k).s ≤ 4096 by omega), g4]; rfl)
            clear hbad hgood g2 g3 g4 g5
            go_wp2_with (first | (go_at_call 22; refine (inm _).mono ?_; rintro e w' ⟨rfl, rfl⟩))
            go_quiet (fail)
            go_wp2_with (fail)
            go_roundw
            case rel => exact ⟨k + 1, by omega, by go_num, hz, (by first | exact hbox.trans ((drew_below _ _).mono (by simp; omega)) | exact hbox)⟩
            case measure => simp [intOf]; omega
          have u5 : ((at_ l k).r != 0) = true := by simp [g5]
          by_cases g6 : (at_ l k).r < 3
          · have u6 : decide ((at_ l k).r < 3) = true := decide_eq_true g6
            have g4 : rootB b (at_ l k).r = false := decide_eq_false (by omega)
            have hz := hbad (by rw [g4]; simp)
            clear hbad hgood g2 g3 g4 g5 g6
            go_wp2_with (first | (go_at_call 22; refine (inm _).mono ?_; rintro e w' ⟨rfl, rfl⟩))
            go_quiet (fail)
            go_wp2_with (fail)
            go_ret
            exact ⟨by rw [hz.out]; rfl, (by first | exact hbox.trans ((drew_below _ _).mono (by simp; omega)) | exact hbox)⟩
          have u6 : decide ((at_ l k).r < 3) = false := decide_eq_false g6
          by_cases g7 : b ≤ (at_ l k).r
          · have u7 : decide (b ≤ (at_ l k).r) = true := decide_eq_true g7
            have g4 : rootB b (at_ l k).r = false := decide_eq_false (by omega)
            have hz := hbad (by rw [g4]; simp)
            clear hbad hgood g2 g3 g4 g5 g6 g7
            go_wp2_with (first | (go_at_call 22; refine (inm _).mono ?_; rintro e w' ⟨rfl, rfl⟩))
            go_quiet (fail)
            go_wp2_with (fail)
            go_ret
            exact ⟨by rw [hz.out]; rfl, (by first | exact hbox.trans ((drew_below _ _).mono (by simp; omega)) | exact hbox)⟩
          have u7 : decide (b ≤ (at_ l k).r) = false := decide_eq_false g7
          have g4 : rootB b (at_ l k).r = true := decide_eq_true (.inr (by omega))
          have hz := hgood (by rw [decide_eq_true hk0H.out, g1, decide_eq_true (show 0 ≤ (at_ l k).s ∧ (at_ l k).s ≤ 4096 by omega), g4]; rfl)
          clear hbad hgood g2 g3 g4 g5 g6 g7
          go_wp2_with (first | (go_at_call 22; refine (inm _).mono ?_; rintro e w' ⟨rfl, rfl⟩))
          go_quiet (fail)
          go_wp2_with (fail)
          go_roundw
          case rel => exact ⟨k + 1, by omega, by go_num, hz, (by first | exact hbox.trans ((drew_below _ _).mono (by simp; omega)) | exact hbox)⟩
          case measure => simp [intOf]; omega
      · obtain ⟨db, do_, ee, hdb, hdl⟩ := cl j (by omega)
        cases ee
        obtain ⟨d0, d1, d2⟩ := hdl _ hbox
        have y1 : ((0 : Int) < (k : Int)) := by omega
        have y1n : decide (0 < k) = true := by rw [decide_eq_true_eq]; omega
        have y2 : IntKind.i64.wrap ((k : Int) - 1) = (j : Int) := by rw [IntWalk.i64_in _ (by omega)]; omega
        have y3 : (j : Int) < (l.length : Int) := by omega
        have hle := le_eq (at_ l k).n (at_ l j).n
        rw [← hj'] at hbad hgood
        have hk1 := Lib.hid (show ¬ k = 0 by omega)
        clear hj' hj
        cases g1 : nameB (at_ l k).n with
        | false =>
          have hz := hbad (by rw [g1]; simp)
          have inm := fun W => g1 ▸ inm (at_ l k).n W hsn
          clear hbad hgood
          go_wp2_with (first | (go_at_call 22; refine (inm _).mono ?_; rintro e w' ⟨rfl, rfl⟩))
          go_quiet (fail)
          go_wp2_with (fail)
          go_ret
          exact ⟨by rw [hz.out]; rfl, (by first | exact hbox.trans ((drew_below _ _).mono (by simp; omega)) | exact hbox)⟩
        | true =>
          have inm := fun W => g1 ▸ inm (at_ l k).n W hsn
          clear hle
          cases g0 : lt (at_ l j).n (at_ l k).n with
          | false =>
            have hz := hbad (by rw [g0, decide_eq_false hk1.out]; rfl)
            clear hbad hgood
            have m1 : Op.bytesLess (at_ l j).n.toList (at_ l k).n.toList = false := g0
            go_wp2_with (first | (go_at_call 22; refine (inm _).mono ?_; rintro e w' ⟨rfl, rfl⟩))
            go_quiet (fail)
            go_wp2_with (fail)
            go_ret
            exact ⟨by rw [hz.out]; rfl, (by first | exact hbox.trans ((drew_below _ _).mono (by simp; omega)) | exact hbox)⟩
          | true =>
            have m1 : Op.bytesLess (at_ l j).n.toList (at_ l k).n.toList = true := g0
            rw [g0, Bool.or_true] at hgood
            by_cases g2 : (at_ l k).s < 0
            · have u2 : decide ((at_ l k).s < 0) = true := decide_eq_true g2
              have hz := hbad (by rw [decide_eq_false (show ¬ (0 ≤ (at_ l k).s ∧ (at_ l k).s ≤ 4096) by omega)]; simp)
              clear hbad hgood g2
              go_wp2_with (first | (go_at_call 22; refine (inm _).mono ?_; rintro e w' ⟨rfl, rfl⟩))
              go_quiet (fail)
              go_wp2_with (fail)
              go_ret
              exact ⟨by rw [hz.out]; rfl, (by first | exact hbox.trans ((drew_below _ _).mono (by simp; omega)) | exact hbox)⟩
            have u2 : decide ((at_ l k).s < 0) = false := decide_eq_false g2
            by_cases g3 : 4096 < (at_ l k).s
            · have u3 : decide (4096 < (at_ l k).s) = true := decide_eq_true g3
              have hz := hbad (by rw [decide_eq_false (show ¬ (0 ≤ (at_ l k).s ∧ (at_ l k).s ≤ 4096) by omega)]; simp)
              clear hbad hgood g2 g3
              go_wp2_with (first | (go_at_call 22; refine (inm _).mono ?_; rintro e w' ⟨rfl, rfl⟩))
              go_quiet (fail)
              go_wp2_with (fail)
              go_ret
              exact ⟨by rw [hz.out]; rfl, (by first | exact hbox.trans ((drew_below _ _).mono (by simp; omega)) | exact hbox)⟩
            have u3 : decide (4096 < (at_ l k).s) = false := decide_eq_false g3
            by_cases g5 : (at_ l k).r = 0
            · have u5 : ((at_ l k).r != 0) = false := by simp [g5]
              have g4 : rootB b (at_ l k).r = true := decide_eq_true (.inl g5)
              have hz := hgood (by rw [ g1, decide_eq_true (show 0 ≤ (at_ l k).s ∧ (at_ l k).s ≤ 4096 by omega), g4]; rfl)
              clear hbad hgood g2 g3 g4 g5
              go_wp2_with (first | (go_at_call 22; refine (inm _).mono ?_; rintro e w' ⟨rfl, rfl⟩))
              go_quiet (fail)
              go_wp2_with (fail)
              go_roundw
              case rel => exact ⟨k + 1, by omega, by go_num, hz, (by first | exact hbox.trans ((drew_below _ _).mono (by simp; omega)) | exact hbox)⟩
              case measure => simp [intOf]; omega
            have u5 : ((at_ l k).r != 0) = true := by simp [g5]
            by_cases g6 : (at_ l k).r < 3
            · have u6 : decide ((at_ l k).r < 3) = true := decide_eq_true g6
              have g4 : rootB b (at_ l k).r = false := decide_eq_false (by omega)
              have hz := hbad (by rw [g4]; simp)
              clear hbad hgood g2 g3 g4 g5 g6
              go_wp2_with (first | (go_at_call 22; refine (inm _).mono ?_; rintro e w' ⟨rfl, rfl⟩))
              go_quiet (fail)
              go_wp2_with (fail)
              go_ret
              exact ⟨by rw [hz.out]; rfl, (by first | exact hbox.trans ((drew_below _ _).mono (by simp; omega)) | exact hbox)⟩
            have u6 : decide ((at_ l k).r < 3) = false := decide_eq_false g6
            by_cases g7 : b ≤ (at_ l k).r
            · have u7 : decide (b ≤ (at_ l k).r) = true := decide_eq_true g7
              have g4 : rootB b (at_ l k).r = false := decide_eq_false (by omega)
              have hz := hbad (by rw [g4]; simp)
              clear hbad hgood g2 g3 g4 g5 g6 g7
              go_wp2_with (first | (go_at_call 22; refine (inm _).mono ?_; rintro e w' ⟨rfl, rfl⟩))
              go_quiet (fail)
              go_wp2_with (fail)
              go_ret
              exact ⟨by rw [hz.out]; rfl, (by first | exact hbox.trans ((drew_below _ _).mono (by simp; omega)) | exact hbox)⟩
            have u7 : decide (b ≤ (at_ l k).r) = false := decide_eq_false g7
            have g4 : rootB b (at_ l k).r = true := decide_eq_true (.inr (by omega))
            have hz := hgood (by rw [ g1, decide_eq_true (show 0 ≤ (at_ l k).s ∧ (at_ l k).s ≤ 4096 by omega), g4]; rfl)
            clear hbad hgood g2 g3 g4 g5 g6 g7
            go_wp2_with (first | (go_at_call 22; refine (inm _).mono ?_; rintro e w' ⟨rfl, rfl⟩))
            go_quiet (fail)
            go_wp2_with (fail)
            go_roundw
            case rel => exact ⟨k + 1, by omega, by go_num, hz, (by first | exact hbox.trans ((drew_below _ _).mono (by simp; omega)) | exact hbox)⟩
            case measure => simp [intOf]; omega
    · have x1 : ¬ ((k : Int) < (l.length : Int)) := by omega
      obtain rfl : k = l.length := by omega
      go_wp2_with (fail)
      go_ret
      exact ⟨by rw [hn.out, hc]; rfl, hB⟩
end Go.Proofs.Ytfmgoamgcjipkaa
