/- sector: Open; the document's own Seal and Open. -/
import Derived.Test.YtbiblmpojoglmaaSecWalk
import Derived.Test.YtbiblmpojoglmaaCrcRef
namespace Go.Proofs.Ytbiblmpojoglmaa
open Go.RowKit
set_option linter.unusedVariables false
set_option linter.unusedSimpArgs false

theorem cut_run {P : Program} {T : TypeId} (hT : P.underlying T = some .string) (s : ByteArray) (b : Nat) (h2 : b ≤ s.size) (W : World) :
    (Instr.slice T (.string s) none (some (.int .i64 (b : Int))) none).run P W = .ok (.string (s.extract 0 b)) W := by
  simp [Instr.slice, run_underlying hT, Instr.sliceBounds, Instr.sliceBound, asIntOf, h2]
def eqS (a b : ByteArray) : Bool := a.toList == b.toList
theorem eqS_iff (a b : ByteArray) : eqS a b = true ↔ a = b := by
  unfold eqS
  rw [beq_iff_eq]
  exact ⟨fun h => Go.WideShapes.bytes_inj (by rw [← Lib.toList_data, ← Lib.toList_data, h]), fun h => by rw [h]⟩
theorem eqS_self (a : ByteArray) : eqS a a = true := (eqS_iff a a).2 rfl
theorem eqS_ne {a b : ByteArray} (h : a ≠ b) : eqS a b = false := by
  cases e : eqS a b with
  | false => rfl
  | true => exact absurd ((eqS_iff a b).1 e) h
def openOk (d slot at_ : Int) (s : ByteArray) : Bool := decide (s.size = 128) && (sealOk d slot at_ (s.extract 0 120) && eqS (sealL d slot at_ (s.extract 0 120)) s)
def openS (d slot at_ : Int) (s : ByteArray) : ByteArray := if openOk d slot at_ s then s.extract 0 120 else ⟨#[]⟩
/-- A text, and whether it is one. -/
def TellsB (w : World) (s : ByteArray) (b : Bool) (e : Ending) (w' : World) : Prop := e = .returned (.tuple #[.string s, .bool b]) ∧ Below w.heap.size w w'
theorem open_bad (w : World) (d slot at_ : Int) (s : ByteArray) (h : Hid (openOk d slot at_ s = false)) (W : World) (hb : Below w.heap.size w W) : TellsB w (openS d slot at_ s) (openOk d slot at_ s) (.returned (.tuple #[.string ⟨#[]⟩, .bool false])) W :=
  ⟨by rw [openS, h.out]; rfl, hb⟩
theorem sealE_ok (d slot at_ : Int) (p : ByteArray) : (sealE d slot at_ p == 0) = sealOk d slot at_ p := by
  rw [sealE]; cases sealOk d slot at_ p <;> rfl
theorem sealL_size (d slot at_ : Int) (p : ByteArray) : (sealL d slot at_ p).size ≤ 128 := by
  rw [sealL]
  cases h : sealOk d slot at_ p with
  | false => rw [if_neg (by decide)]; decide
  | true =>
    unfold sealOk at h; rw [decide_eq_true_eq] at h
    have e : p.data.toList.length = p.size := by simp
    rw [if_pos rfl, secS, lineOf_size, Sec.sec_length _ _ _ (by omega)]; omega
theorem cut120 (s : ByteArray) (h : s.size = 128) : (s.extract 0 120).size = 120 := by simp [ByteArray.size_extract]; omega
set_option maxRecDepth 100000 in
set_option maxHeartbeats 1000000 in
theorem open_any (d slot at_ : Int) (s : ByteArray) (w : World) (hs : s.size ≤ 140737488351232) :
    Calls Try.prog 12 #[.int .i64 d, .int .i64 slot, .int .i64 at_, .string s] w (TellsB w (openS d slot at_ s) (openOk d slot at_ s)) := by
  by_cases h : s.size = 128
  · have e0 : (((s.size : Nat) : Int) != 128) = false := by rw [h]; rfl
    have hcut := fun W => cut_run (P := Try.prog) (T := 9) Try.underlying9 s 120 (by omega) W
    rw [show ((120 : Nat) : Int) = 120 from rfl] at hcut
    have hsl := fun W => seal_any d slot at_ (s.extract 0 120) W (by rw [cut120 s h]; omega)
    have ho : openOk d slot at_ s = (sealOk d slot at_ (s.extract 0 120) && eqS (sealL d slot at_ (s.extract 0 120)) s) := by rw [openOk, decide_eq_true h, Bool.true_and]
    obtain ⟨c1, t1⟩ : ∃ b, (sealE d slot at_ (s.extract 0 120) == 0) = b := ⟨_, rfl⟩
    obtain ⟨c2, t2⟩ : ∃ b, ((sealL d slot at_ (s.extract 0 120)).toList == s.toList) = b := ⟨_, rfl⟩
    rw [← sealE_ok, t1, show eqS (sealL d slot at_ (s.extract 0 120)) s = c2 from t2] at ho
    have hal := fun W v hv => all_any v [c1, c2] W hv (by simp)
    have h120 : 120 ≤ (s.size : Int) := by omega
    have hO : Hid (openS d slot at_ s = if openOk d slot at_ s then s.extract 0 120 else ⟨#[]⟩) := Lib.hid rfl
    generalize openS d slot at_ s = os at *
    generalize sealE d slot at_ (s.extract 0 120) = n at *
    generalize sealL d slot at_ (s.extract 0 120) = x at *
    generalize s.extract 0 120 = p at *
    cases hc : (c1 && c2) with
    | true =>
      rw [hc] at ho
      rw [show [c1, c2].all id = true by simpa using hc] at hal
      have ho' := Lib.hid ho
      clear ho hc h
      go_enter Try.func12, Try.ntmps12
      go_wp2_with (fail)
      refine (hsl _).mono ?_
      rintro e w1 ⟨rfl, b1⟩
      go_wp2_with (fail)
      refine (hal _ _ (lit_reads w1 4 [.bool c1, .bool c2])).mono ?_
      rintro e w0 ⟨rfl, rfl⟩
      go_wp2_with (fail)
      go_ret2
      exact ⟨by rw [ho'.out, hO.out, ho'.out]; rfl, b1.alloc b1.size _⟩
    | false =>
      rw [hc] at ho
      rw [show [c1, c2].all id = false by simpa using hc] at hal
      have ho' := Lib.hid ho
      clear ho hc h
      go_enter Try.func12, Try.ntmps12
      go_wp2_with (fail)
      refine (hsl _).mono ?_
      rintro e w1 ⟨rfl, b1⟩
      go_wp2_with (fail)
      refine (hal _ _ (lit_reads w1 4 [.bool c1, .bool c2])).mono ?_
      rintro e w0 ⟨rfl, rfl⟩
      go_wp2_with (fail)
      go_ret2
      exact ⟨by rw [ho'.out, hO.out, ho'.out]; rfl, b1.alloc b1.size _⟩
  · have e0 : (((s.size : Nat) : Int) != 128) = true := by rw [bne_iff_ne]; omega
    have hz : Hid (openOk d slot at_ s = false) := Lib.hid (by rw [openOk, decide_eq_false h, Bool.false_and])
    clear h
    go_enter Try.func12, Try.ntmps12
    go_wp2_with (fail)
    go_ret2
    exact open_bad w d slot at_ s hz _ (Below.refl _ _)
set_option maxRecDepth 100000 in
set_option maxHeartbeats 2000000 in
theorem rseal_right (i l a : Nat) (p : ByteArray) (w : World) (h1 : 1 ≤ i) (h2 : i ≤ 65535) (h3 : l ≤ 6) (h4 : a ≤ 255) (h5 : p.size ≤ 120) :
    Calls Try.prog 11 #[.int .i64 (i : Int), .int .i64 (l : Int), .int .i64 (a : Int), .string p] w (Tells2 w (secS i l a p) 0) := by
  have t1 : decide ((i : Int) < 1) = false := by rw [decide_eq_false_iff_not]; omega
  have t2 : decide (65535 < (i : Int)) = false := by rw [decide_eq_false_iff_not]; omega
  have t3 : decide ((l : Int) < 0) = false := by rw [decide_eq_false_iff_not]; omega
  have t4 : decide (6 < (l : Int)) = false := by rw [decide_eq_false_iff_not]; omega
  have t5 : decide ((a : Int) < 0) = false := by rw [decide_eq_false_iff_not]; omega
  have t6 : decide (255 < (a : Int)) = false := by rw [decide_eq_false_iff_not]; omega
  have t7 : decide (120 < (p.size : Int)) = false := by rw [decide_eq_false_iff_not]; omega
  have hfl := fun W => rfill_any p 120 W (by omega)
  obtain ⟨g1, g2⟩ := fill_good w p 120 (by omega) h5
  rw [show ((120 : Nat) : Int) = 120 from rfl] at g1 g2
  rw [g1, g2] at hfl
  have n1 := fun W => rnum_right i 2 W (by decide) (by decide) (by omega)
  have n2 := fun W => rnum_right l 1 W (by decide) (by decide) (by omega)
  have n3 := fun W => rnum_right a 1 W (by decide) (by decide) (by omega)
  have hcs : Crc.sum (Sec.headL i l a p.data.toList) < 4294967296 := Sec.sum_lt _
  have n4 := fun W => rnum_right (Crc.sum (Sec.headL i l a p.data.toList)) 4 W (by decide) (by decide) hcs
  have hsm := fun W h => rsum_any (lineOf (Sec.headL i l a p.data.toList)) W h
  rw [list_lineOf] at hsm
  obtain ⟨q1, q2⟩ := sec_parts i l a p
  have z1 : (padB p 120).size ≤ 120 := by rw [padB, lineOf_size, Pk.pad_length (by simpa using h5)]; omega
  have z2 : (lineOf (Pk.be 2 i)).size ≤ 2 := by rw [lineOf_size, Pk.be_length]; omega
  have z3 : (lineOf (Pk.be 1 l)).size ≤ 1 := by rw [lineOf_size, Pk.be_length]; omega
  have z4 : (lineOf (Pk.be 1 a)).size ≤ 1 := by rw [lineOf_size, Pk.be_length]; omega
  have z5 : (lineOf (Sec.headL i l a p.data.toList)).size ≤ 124 := by rw [lineOf_size, Sec.head_length _ _ _ (by simpa using h5)]; omega
  have z6 : (lineOf (Pk.be 4 (Crc.sum (Sec.headL i l a p.data.toList)))).size ≤ 4 := by rw [lineOf_size, Pk.be_length]; omega
  have z12 : (padB p 120 ++ lineOf (Pk.be 2 i)).size ≤ 122 := by rw [ByteArray.size_append]; omega
  have z13 : (padB p 120 ++ lineOf (Pk.be 2 i) ++ lineOf (Pk.be 1 l)).size ≤ 123 := by rw [ByteArray.size_append]; omega
  have q1' := Lib.hid q1
  have q2' := Lib.hid q2
  clear q1 q2 g1 g2
  generalize padB p 120 = x1 at *
  generalize lineOf (Pk.be 2 i) = x2 at *
  generalize lineOf (Pk.be 1 l) = x3 at *
  generalize lineOf (Pk.be 1 a) = x4 at *
  generalize lineOf (Pk.be 4 (Crc.sum (Sec.headL i l a p.data.toList))) = x6 at *
  generalize Crc.sum (Sec.headL i l a p.data.toList) = cs at *
  generalize lineOf (Sec.headL i l a p.data.toList) = x5 at *
  go_enter Try.func11, Try.ntmps11
  go_wp2_with (fail)
  refine (hfl _).mono ?_
  rintro e w1 ⟨rfl, b1⟩
  go_wp2_with (fail)
  refine (n1 _).mono ?_
  rintro e w2 ⟨rfl, b2⟩
  go_wp2_with (fail)
  refine (n2 _).mono ?_
  rintro e w3 ⟨rfl, b3⟩
  go_wp2_with (fail)
  refine (n3 _).mono ?_
  rintro e w4 ⟨rfl, b4⟩
  go_wp2_with (fail)
  rw [q1'.out]
  refine (hsm _ (by omega)).mono ?_
  rintro e w5 ⟨rfl, b5⟩
  go_wp2_with (fail)
  refine (n4 _).mono ?_
  rintro e w6 ⟨rfl, b6⟩
  go_wp2_with (fail)
  go_ret2
  exact ⟨by rw [q2'.out]; rfl, below_c' (below_c' (below_c' (below_c' (below_c' b1 b2) b3) b4) b5) b6⟩
set_option maxRecDepth 100000 in
set_option maxHeartbeats 2000000 in
theorem rseal_any (d slot at_ : Int) (p : ByteArray) (w : World) (hp : p.size ≤ 140737488351232) :
    Calls Try.prog 11 #[.int .i64 d, .int .i64 slot, .int .i64 at_, .string p] w (Tells2 w (sealL d slot at_ p) (sealE d slot at_ p)) := by
  by_cases c0 : d < 1
  · have t0 : decide (d < 1) = true := by rw [decide_eq_true_eq]; omega
    have hz : Hid (sealOk d slot at_ p = false) := Lib.hid (by unfold sealOk; rw [decide_eq_false_iff_not]; omega)
    clear c0
    go_enter Try.func11, Try.ntmps11
    go_wp2_with (fail)
    go_ret2
    exact seal_bad w d slot at_ p hz _ (Below.refl _ _)
  · skip
    by_cases c1 : 65535 < d
    · have t0 : decide (d < 1) = false := by rw [decide_eq_false_iff_not]; omega
      have t1 : decide (65535 < d) = true := by rw [decide_eq_true_eq]; omega
      have hz : Hid (sealOk d slot at_ p = false) := Lib.hid (by unfold sealOk; rw [decide_eq_false_iff_not]; omega)
      clear c0 c1
      go_enter Try.func11, Try.ntmps11
      go_wp2_with (fail)
      go_ret2
      exact seal_bad w d slot at_ p hz _ (Below.refl _ _)
    · skip
      by_cases c2 : slot < 0
      · have t0 : decide (d < 1) = false := by rw [decide_eq_false_iff_not]; omega
        have t1 : decide (65535 < d) = false := by rw [decide_eq_false_iff_not]; omega
        have t2 : decide (slot < 0) = true := by rw [decide_eq_true_eq]; omega
        have hz : Hid (sealOk d slot at_ p = false) := Lib.hid (by unfold sealOk; rw [decide_eq_false_iff_not]; omega)
        clear c0 c1 c2
        go_enter Try.func11, Try.ntmps11
        go_wp2_with (fail)
        go_ret2
        exact seal_bad w d slot at_ p hz _ (Below.refl _ _)
      · skip
        by_cases c3 : 6 < slot
        · have t0 : decide (d < 1) = false := by rw [decide_eq_false_iff_not]; omega
          have t1 : decide (65535 < d) = false := by rw [decide_eq_false_iff_not]; omega
          have t2 : decide (slot < 0) = false := by rw [decide_eq_false_iff_not]; omega
          have t3 : decide (6 < slot) = true := by rw [decide_eq_true_eq]; omega
          have hz : Hid (sealOk d slot at_ p = false) := Lib.hid (by unfold sealOk; rw [decide_eq_false_iff_not]; omega)
          clear c0 c1 c2 c3
          go_enter Try.func11, Try.ntmps11
          go_wp2_with (fail)
          go_ret2
          exact seal_bad w d slot at_ p hz _ (Below.refl _ _)
        · skip
          by_cases c4 : at_ < 0
          · have t0 : decide (d < 1) = false := by rw [decide_eq_false_iff_not]; omega
            have t1 : decide (65535 < d) = false := by rw [decide_eq_false_iff_not]; omega
            have t2 : decide (slot < 0) = false := by rw [decide_eq_false_iff_not]; omega
            have t3 : decide (6 < slot) = false := by rw [decide_eq_false_iff_not]; omega
            have t4 : decide (at_ < 0) = true := by rw [decide_eq_true_eq]; omega
            have hz : Hid (sealOk d slot at_ p = false) := Lib.hid (by unfold sealOk; rw [decide_eq_false_iff_not]; omega)
            clear c0 c1 c2 c3 c4
            go_enter Try.func11, Try.ntmps11
            go_wp2_with (fail)
            go_ret2
            exact seal_bad w d slot at_ p hz _ (Below.refl _ _)
          · skip
            by_cases c5 : 255 < at_
            · have t0 : decide (d < 1) = false := by rw [decide_eq_false_iff_not]; omega
              have t1 : decide (65535 < d) = false := by rw [decide_eq_false_iff_not]; omega
              have t2 : decide (slot < 0) = false := by rw [decide_eq_false_iff_not]; omega
              have t3 : decide (6 < slot) = false := by rw [decide_eq_false_iff_not]; omega
              have t4 : decide (at_ < 0) = false := by rw [decide_eq_false_iff_not]; omega
              have t5 : decide (255 < at_) = true := by rw [decide_eq_true_eq]; omega
              have hz : Hid (sealOk d slot at_ p = false) := Lib.hid (by unfold sealOk; rw [decide_eq_false_iff_not]; omega)
              clear c0 c1 c2 c3 c4 c5
              go_enter Try.func11, Try.ntmps11
              go_wp2_with (fail)
              go_ret2
              exact seal_bad w d slot at_ p hz _ (Below.refl _ _)
            · skip
              by_cases c6 : 120 < (p.size : Int)
              · have t0 : decide (d < 1) = false := by rw [decide_eq_false_iff_not]; omega
                have t1 : decide (65535 < d) = false := by rw [decide_eq_false_iff_not]; omega
                have t2 : decide (slot < 0) = false := by rw [decide_eq_false_iff_not]; omega
                have t3 : decide (6 < slot) = false := by rw [decide_eq_false_iff_not]; omega
                have t4 : decide (at_ < 0) = false := by rw [decide_eq_false_iff_not]; omega
                have t5 : decide (255 < at_) = false := by rw [decide_eq_false_iff_not]; omega
                have t6 : decide (120 < (p.size : Int)) = true := by rw [decide_eq_true_eq]; omega
                have hz : Hid (sealOk d slot at_ p = false) := Lib.hid (by unfold sealOk; rw [decide_eq_false_iff_not]; omega)
                clear c0 c1 c2 c3 c4 c5 c6
                go_enter Try.func11, Try.ntmps11
                go_wp2_with (fail)
                go_ret2
                exact seal_bad w d slot at_ p hz _ (Below.refl _ _)
              · skip
                obtain ⟨i, rfl⟩ := Int.eq_ofNat_of_zero_le (show 0 ≤ d by omega)
                obtain ⟨l, rfl⟩ := Int.eq_ofNat_of_zero_le (show 0 ≤ slot by omega)
                obtain ⟨a, rfl⟩ := Int.eq_ofNat_of_zero_le (show 0 ≤ at_ by omega)
                obtain ⟨g1, g2⟩ := seal_good (i := i) (l := l) (a := a) (p := p) (by omega) (by omega) (by omega) (by omega) (by omega)
                rw [g1, g2]
                exact rseal_right i l a p w (by omega) (by omega) (by omega) (by omega) (by omega)
set_option maxRecDepth 100000 in
set_option maxHeartbeats 1000000 in
theorem ropen_any (d slot at_ : Int) (s : ByteArray) (w : World) (hs : s.size ≤ 140737488351232) :
    Calls Try.prog 13 #[.int .i64 d, .int .i64 slot, .int .i64 at_, .string s] w (TellsB w (openS d slot at_ s) (openOk d slot at_ s)) := by
  by_cases h : s.size = 128
  · have e0 : (((s.size : Nat) : Int) != 128) = false := by rw [h]; rfl
    have hcut := fun W => cut_run (P := Try.prog) (T := 9) Try.underlying9 s 120 (by omega) W
    rw [show ((120 : Nat) : Int) = 120 from rfl] at hcut
    have hsl := fun W => rseal_any d slot at_ (s.extract 0 120) W (by rw [cut120 s h]; omega)
    have ho : openOk d slot at_ s = (sealOk d slot at_ (s.extract 0 120) && eqS (sealL d slot at_ (s.extract 0 120)) s) := by rw [openOk, decide_eq_true h, Bool.true_and]
    have h120 : 120 ≤ (s.size : Int) := by omega
    have hO : Hid (openS d slot at_ s = if openOk d slot at_ s then s.extract 0 120 else ⟨#[]⟩) := Lib.hid rfl
    cases hq : sealOk d slot at_ (s.extract 0 120) with
    | false =>
      rw [hq, Bool.false_and] at ho
      have ho' := Lib.hid ho
      have hE : sealE d slot at_ (s.extract 0 120) = 60 := by rw [sealE, hq]; rfl
      rw [hE] at hsl
      clear ho hq hE h
      generalize sealL d slot at_ (s.extract 0 120) = x at *
      generalize s.extract 0 120 = p at *
      go_enter Try.func13, Try.ntmps13
      go_wp2_with (fail)
      refine (hsl _).mono ?_
      rintro e w1 ⟨rfl, b1⟩
      go_wp2_with (fail)
      go_ret2
      exact open_bad w d slot at_ s ho' _ b1
    | true =>
      rw [hq, Bool.true_and] at ho
      have hE : sealE d slot at_ (s.extract 0 120) = 0 := by rw [sealE, hq]; rfl
      rw [hE] at hsl
      clear hq hE
      cases hc : eqS (sealL d slot at_ (s.extract 0 120)) s with
      | true =>
        rw [hc] at ho
        have ho' := Lib.hid ho
        have e5 : (!(sealL d slot at_ (s.extract 0 120)).toList == s.toList) = false := by rw [show ((sealL d slot at_ (s.extract 0 120)).toList == s.toList) = true from hc]; rfl
        clear ho hc h
        generalize sealL d slot at_ (s.extract 0 120) = x at *
        generalize s.extract 0 120 = p at *
        go_enter Try.func13, Try.ntmps13
        go_wp2_with (fail)
        refine (hsl _).mono ?_
        rintro e w1 ⟨rfl, b1⟩
        go_wp2_with (fail)
        go_ret2
        exact ⟨by rw [ho'.out, hO.out, ho'.out]; rfl, b1⟩
      | false =>
        rw [hc] at ho
        have ho' := Lib.hid ho
        have e5 : (!(sealL d slot at_ (s.extract 0 120)).toList == s.toList) = true := by rw [show ((sealL d slot at_ (s.extract 0 120)).toList == s.toList) = false from hc]; rfl
        clear ho hc h
        generalize sealL d slot at_ (s.extract 0 120) = x at *
        generalize s.extract 0 120 = p at *
        go_enter Try.func13, Try.ntmps13
        go_wp2_with (fail)
        refine (hsl _).mono ?_
        rintro e w1 ⟨rfl, b1⟩
        go_wp2_with (fail)
        go_ret2
        exact open_bad w d slot at_ s ho' _ b1
  · have e0 : (((s.size : Nat) : Int) != 128) = true := by rw [bne_iff_ne]; omega
    have hz : Hid (openOk d slot at_ s = false) := Lib.hid (by rw [openOk, decide_eq_false h, Bool.false_and])
    clear h
    go_enter Try.func13, Try.ntmps13
    go_wp2_with (fail)
    go_ret2
    exact open_bad w d slot at_ s hz _ (Below.refl _ _)
end Go.Proofs.Ytbiblmpojoglmaa
