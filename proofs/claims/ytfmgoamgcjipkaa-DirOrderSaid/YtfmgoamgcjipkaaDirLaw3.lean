/- dir's laws: whatever the order. -/
import Derived.Test.YtfmgoamgcjipkaaDirLaw2
import Derived.Test.YtfmgoamgcjipkaaDirFit2
import Derived.Test.YtfmgoamgcjipkaaIntRng
namespace Go.Proofs.Ytfmgoamgcjipkaa
open Go.RowKit
set_option linter.unusedVariables false
set_option linter.unusedSimpArgs false
open Dr

theorem OwnE.row' {w : World} {B : Nat} {T : TypeId} {a : Option Addr} {n cap : Nat} {l : List Vol} (h : OwnE volE w B T (.slice a n cap) l) : n ≤ cap ∧ cap ≤ maxLen := by
  rcases h.o.2 with ⟨h1, h0⟩ | ⟨g, c, cur, h1, _, _, h4, h5, _⟩
  · simp at h1; obtain ⟨_, rfl, rfl⟩ := h1; exact ⟨Nat.le_refl _, Nat.zero_le _⟩
  · simp at h1; obtain ⟨_, rfl, rfl⟩ := h1; exact ⟨h4, h5⟩
theorem add_right_call (v : Value) (l out rest : List Vol) (i : Nat) (w : World) (hR : ReadsE volE w v out) (h : Putting l out rest) (hl : rightB 200 l = true) (hi : i < rest.length) (X : Vol) (hX : at_ rest i = X) :
    Calls Try.prog 10 #[v, .agg #[.string X.n, .int .i64 X.s, .int .i64 X.r]] w (GivesVE w (insL out X) 0) := by
  have hlen := h.len
  obtain ⟨h8, hv, hr⟩ := right_parts hl
  have hm := hv _ (h.in hi)
  rw [hX] at hm
  have hn : nameB X.n = true := by unfold volB at hm; rw [Bool.and_eq_true] at hm; exact hm.1
  have hsz := (volB_lim (by decide) hm).1
  have hno : findN out X.n = out.length := by rw [← hX]; exact findN_none (h.no hr hi)
  have e : addE out X = 0 := by unfold addE; rw [hn, if_pos rfl, if_neg (by omega), if_neg (by omega)]
  have := add_any v out X w hR (by omega) (by omega)
  rw [e, show addL out X = insL out X by rw [addL, if_pos e]] at this
  exact this
set_option maxRecDepth 100000 in
set_option maxHeartbeats 16000000 in
theorem order_walk (v1 : Value) (l1 : List Vol) (v2 : Value) (n1 : List Int) (v3 : Value) (od : List Int) (w : World) (R1 : ReadsE volE w v1 l1) (R2 : Reads w v2 (n1.map (.int .i64))) (R3 : Reads w v3 (od.map (.int .i64)))
    (I1 : ∀ x ∈ l1, In64 x.s ∧ In64 x.r) (I2 : ∀ i, i < n1.length → -9223372036854775808 ≤ n1.getD i 0 ∧ n1.getD i 0 ≤ 9223372036854775807) (I3 : ∀ i, i < od.length → -9223372036854775808 ≤ od.getD i 0 ∧ od.getD i 0 ≤ 9223372036854775807)
    (s1 : l1.length ≤ 140737488351232) (s2 : n1.length ≤ 140737488351232) (s3 : od.length ≤ 140737488351232) : Calls Try.prog 6 #[v1, v2, v3] w (Tells w (.bool true)) := by
  have c1 := fun W (hW : Below w.heap.size w W) => fit_any v1 l1 v2 n1 W (R1.below hW) I1 (R2.below hW) I2 s1 s2
  obtain ⟨ao, cao, rfl, clo⟩ := R3.nums
  clear R1 R2 R3 I1 I2
  go_enter Try.func6, Try.ntmps6
  go_wp2_with (fail)
  refine (dawake_any _).mono ?_
  rintro e w1 ⟨rfl, B1⟩
  go_wp2_with (fail)
  refine (c1 _ B1).mono ?_
  rintro e w2 ⟨l, vl, rfl, ol, b2, hr⟩
  have B2 := below_c B1 b2
  have rl := ol.reads
  obtain ⟨h8, hv, hri⟩ := right_parts hr
  obtain ⟨o, w3, hap, o3, b3⟩ := rl.copyRun (by omega)
  have hw2 := B2.size
  have B3 := below_c B2 b3
  have rl3 := rl.below b3
  have hrH := Lib.hid hr
  have hriH := Lib.hid hri
  clear c1 ol b2 B1 B2 rl b3 hr hv hri
  go_wp2_with (at_builtin; refine wpList_append_run hap _ _ rfl rfl rfl rfl rfl ?_)
  clear hap
  go_loopw [9, 10, 11] (fun rs ot i W => ∃ (k : Nat) (out rest : List Vol), i = .int .i64 (k : Int) ∧ k + rest.length = l.length ∧ OwnE volE W w.heap.size 24 rs rest ∧ OwnE volE W w.heap.size 24 ot out ∧ Hid (Putting l out rest) ∧ Below w.heap.size w W ∧ ReadsE volE W vl l) (fun _ _ i _ => l.length - (intOf i).toNat)
  case atStart => exact ⟨0, [], l, rfl, by omega, o3.mono hw2, OwnE.nil _ _ _ _, Lib.hid (Putting.start hriH.out), B3, rl3⟩
  case round =>
    obtain ⟨k, out, rest, rfl, hkr, ors, oot, hP, hB, hRl⟩ := hrel
    obtain ⟨rs, rfl⟩ : ∃ v, v = u9 := ⟨_, rfl⟩
    obtain ⟨ot, rfl⟩ : ∃ v, v = u10 := ⟨_, rfl⟩
    rename World => wr
    have hBs := hB.size
    have rr := ors.reads
    have ro := oot.reads
    obtain ⟨ar, car, rfl, clr⟩ := items3 rr
    by_cases hl0 : 0 < rest.length
    rotate_left
    · have x0 : ¬ ((0 : Int) < (rest.length : Int)) := by omega
      have e0 : rest = [] := List.eq_nil_of_length_eq_zero (by omega)
      subst e0
      have hfin := Lib.hid (hP.out.fin hriH.out)
      rw [hfin.out] at ro
      have cS := same_any _ _ l l wr ro hRl (by omega)
      rw [decide_eq_true rfl] at cS
      go_wp2_with (fail)
      refine cS.mono ?_
      rintro e w9 ⟨rfl, b9⟩
      go_wp2_with (fail)
      go_ret
      exact ⟨rfl, below_c hB b9⟩
    have x0 : (0 : Int) < (rest.length : Int) := by omega
    have hcr : rest.length ≤ car ∧ car ≤ 9223372036854775807 := by
      obtain ⟨h1, h2⟩ := ors.row'
      exact ⟨h1, by unfold maxLen at h2; omega⟩
    have TAIL : ∀ (q : Nat), q < rest.length → True := fun _ _ => trivial
    by_cases hko : k < od.length
    · have x1 : (k : Int) < (od.length : Int) := by omega
      obtain ⟨ob, oo, rfl, hob, hoc⟩ := clo k hko
      have hoc' : wr.cell? ⟨ob, oo + k, none⟩ = some (.int .i64 (od.getD k 0)) := by rw [hB.cell (p := ⟨ob, oo + k, none⟩) hob]; exact hoc
      obtain ⟨q, hq, _, cq⟩ := pick_nat (od.getD k 0) (rest.length : Int) (I3 k hko).1 (I3 k hko).2 (by omega) (by omega)
      generalize od.getD k 0 = kk at *
      clear hoc TAIL
      have hqr : q < rest.length := by omega
      obtain ⟨rb, rof, hrb, hrb2, hrc⟩ := clr q hqr
      subst hrb
      obtain ⟨d0, d1, d2⟩ := hrc wr (Below.refl _ _)
      have cA := add_right_call ot l out rest q wr ro hP.out hrH.out hqr
      have hPs := Lib.hid (hP.out.step hriH.out hqr)
      obtain ⟨q1, hq1⟩ : ∃ q1, q + 1 = q1 := ⟨_, rfl⟩
      have y3 : (q : Int) ≤ (car : Int) := by omega
      have y4 : (q1 : Int) ≤ (rest.length : Int) := by omega
      have y5 : q ≤ car := by omega
      have y6 : q1 ≤ rest.length := by omega
      have yq : IntKind.i64.wrap ((q : Int) + 1) = (q1 : Int) := by rw [IntWalk.i64_in _ (by omega)]; omega
      obtain ⟨A, hA⟩ : ∃ A : Addr, (if car = q1 then some (⟨rb, rof, none⟩ : Addr) else some ⟨rb, rof + q1 * 3, none⟩) = some A := by split <;> exact ⟨_, rfl⟩
      have hyq : (q : Int) < (rest.length : Int) := by omega
      have eX := Lib.hid (show at_ rest q = at_ rest q from rfl)
      generalize hX : at_ rest q = X at d0 d1 d2 cA hPs
      have cA' := cA X rfl
      clear cA
      go_wp2_with (fail)
      refine (cq _).mono ?_
      rintro e wq ⟨rfl, rfl⟩
      go_wp2_with (fail)
      refine cA'.mono ?_
      rintro e w4 ⟨v4, rfl, o4, b4⟩
      have rr4 := rr.below b4
      have ors4 := ors.after b4
      have B4 := below_c hB b4
      go_wp2_with (fail)
      have p1 := (rr4.part q (by omega)).1 car
      have p2 := (rr4.part q1 (by omega)).2 A (car - q1) hA (by
        split at hA
        · rename_i h; exact .inl ⟨h, by omega, (Option.some.inj hA).symm⟩
        · exact .inr (Option.some.inj hA).symm)
      have p1d : ReadsE volE w4.drew (.slice (some ⟨rb, rof, none⟩) q car) (rest.take q) := p1
      have p2d : ReadsE volE w4.drew (.slice (some A) (rest.length - q1) (car - q1)) (rest.drop q1) := p2
      obtain ⟨u, w5, hap1, o5, b5⟩ := p1d.copyRun (by rw [List.length_take]; omega)
      obtain ⟨ii, hi, hz0, hz1, hz2⟩ := vol_sizes
      obtain ⟨u2, w6, hap2, o6, b6, _⟩ := OwnE.pushAll (P := Try.prog) (S := 22) Try.underlying22 hi hz0 hz1 hz2 rfl o5 (p2d.below b5) b5.size (by simp; omega) (by simp; omega)
      have b46 : Below w4.heap.size w4 w6 := (Below.refl w4.heap.size w4).drew.trans (b5.trans b6)
      have o4' := o4.after b46
      have B6 := below_c B4 b46
      have hers : rest.take q ++ rest.drop q1 = rest.eraseIdx q := by rw [List.eraseIdx_eq_take_drop_succ, hq1]
      rw [hers] at o6
      have o6H := Lib.hid (o6.mono (show w.heap.size ≤ w4.drew.heap.size from B4.size))
      have o4H := Lib.hid (o4'.mono (show w.heap.size ≤ wr.heap.size from hBs))
      have hRl6 := (hRl.below b4).below b46
      have hel : (rest.eraseIdx q).length + 1 = rest.length := by rw [List.length_eraseIdx_of_lt hqr]; omega
      clear o4 o4' o5 o6 p1 p2 p1d p2d rr4 ors4 b4 b5 b6 b46 hers rr ro clr
      go_region_law (first | (refine step_append_run hap1 _ _ rfl rfl rfl (by simp [Act.eval, Act.put]) (by simp [Act.eval, Act.put]) ?_) | (refine step_append_run hap2 _ _ rfl rfl rfl (by simp [Act.eval, Act.put]) (by simp [Act.eval, Act.put, hA]) ?_))
      go_wp2_with (fail)
      go_roundw
      case rel => exact ⟨k + 1, insL out X, rest.eraseIdx q, by go_num, by omega, o6H.out, o4H.out, hPs, B6, hRl6⟩
      case measure => simp [intOf]; omega
    · have x1 : ¬ ((k : Int) < (od.length : Int)) := by omega
      obtain ⟨q, hqz⟩ : ∃ q : Nat, q = 0 := ⟨_, rfl⟩
      have hqr : q < rest.length := by omega
      clear TAIL
      obtain ⟨rb, rof, hrb, hrb2, hrc⟩ := clr q hqr
      subst hrb
      obtain ⟨d0, d1, d2⟩ := hrc wr (Below.refl _ _)
      have cA := add_right_call ot l out rest q wr ro hP.out hrH.out hqr
      have hPs := Lib.hid (hP.out.step hriH.out hqr)
      obtain ⟨q1, hq1⟩ : ∃ q1, q + 1 = q1 := ⟨_, rfl⟩
      have y3 : (q : Int) ≤ (car : Int) := by omega
      have y4 : (q1 : Int) ≤ (rest.length : Int) := by omega
      have y5 : q ≤ car := by omega
      have y6 : q1 ≤ rest.length := by omega
      have yq : IntKind.i64.wrap ((q : Int) + 1) = (q1 : Int) := by rw [IntWalk.i64_in _ (by omega)]; omega
      obtain ⟨A, hA⟩ : ∃ A : Addr, (if car = q1 then some (⟨rb, rof, none⟩ : Addr) else some ⟨rb, rof + q1 * 3, none⟩) = some A := by split <;> exact ⟨_, rfl⟩
      have hyq : (q : Int) < (rest.length : Int) := by omega
      have eX := Lib.hid (show at_ rest q = at_ rest q from rfl)
      generalize hX : at_ rest q = X at d0 d1 d2 cA hPs
      have cA' := cA X rfl
      clear cA
      subst hqz
      obtain rfl : q1 = 1 := by omega
      have y4z : (1 : Int) ≤ (rest.length : Int) := by omega
      have y6z : 1 ≤ rest.length := by omega
      have yw : IntKind.i64.wrap 1 = 1 := IntWalk.i64_in _ (by decide)
      clear y3 y4 y5 y6 yq hyq
      simp only [Nat.zero_mul, Nat.add_zero, Nat.one_mul] at d0 d1 d2 hA
      go_wp2_with (fail)
      refine cA'.mono ?_
      rintro e w4 ⟨v4, rfl, o4, b4⟩
      have rr4 := rr.below b4
      have ors4 := ors.after b4
      have B4 := below_c hB b4
      go_wp2_with (fail)
      have p1 := (rr4.part 0 (by omega)).1 car
      have p2 := (rr4.part 1 (by omega)).2 A (car - 1) hA (by
        split at hA
        · rename_i h; exact .inl ⟨h, by omega, (Option.some.inj hA).symm⟩
        · exact .inr (Option.some.inj hA).symm)
      have p1d : ReadsE volE w4.drew (.slice (some ⟨rb, rof, none⟩) 0 car) (rest.take 0) := p1
      have p2d : ReadsE volE w4.drew (.slice (some A) (rest.length - 1) (car - 1)) (rest.drop 1) := p2
      obtain ⟨u, w5, hap1, o5, b5⟩ := p1d.copyRun (by rw [List.length_take]; omega)
      obtain ⟨ii, hi, hz0, hz1, hz2⟩ := vol_sizes
      obtain ⟨u2, w6, hap2, o6, b6, _⟩ := OwnE.pushAll (P := Try.prog) (S := 22) Try.underlying22 hi hz0 hz1 hz2 rfl o5 (p2d.below b5) b5.size (by simp; omega) (by simp; omega)
      have b46 : Below w4.heap.size w4 w6 := (Below.refl w4.heap.size w4).drew.trans (b5.trans b6)
      have o4' := o4.after b46
      have B6 := below_c B4 b46
      have hers : rest.take 0 ++ rest.drop 1 = rest.eraseIdx 0 := by rw [List.eraseIdx_eq_take_drop_succ]
      rw [hers] at o6
      have o6H := Lib.hid (o6.mono (show w.heap.size ≤ w4.drew.heap.size from B4.size))
      have o4H := Lib.hid (o4'.mono (show w.heap.size ≤ wr.heap.size from hBs))
      have hRl6 := (hRl.below b4).below b46
      have hel : (rest.eraseIdx 0).length + 1 = rest.length := by rw [List.length_eraseIdx_of_lt hqr]; omega
      clear o4 o4' o5 o6 p1 p2 p1d p2d rr4 ors4 b4 b5 b6 b46 hers rr ro clr
      go_region_law (first | (refine step_append_run hap1 _ _ rfl rfl rfl (by simp [Act.eval, Act.put]) (by simp [Act.eval, Act.put]) ?_) | (refine step_append_run hap2 _ _ rfl rfl rfl (by simp [Act.eval, Act.put]) (by simp [Act.eval, Act.put, hA]) ?_))
      go_wp2_with (fail)
      go_roundw
      case rel => exact ⟨k + 1, insL out X, rest.eraseIdx 0, by go_num, by omega, o6H.out, o4H.out, hPs, B6, hRl6⟩
      case measure => simp [intOf]; omega
end Go.Proofs.Ytfmgoamgcjipkaa
