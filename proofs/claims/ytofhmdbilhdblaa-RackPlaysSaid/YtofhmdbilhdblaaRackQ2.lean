/- the document's rack: what each call does. -/
import Derived.Test.YtofhmdbilhdblaaRackQ1
namespace Go.Proofs.Ytofhmdbilhdblaa
open Go.RowKit
set_option linter.unusedVariables false
set_option linter.unusedSimpArgs false
set_option maxRecDepth 100000

theorem wrM_len (M : Mst) (a : Int) (t : ByteArray) : (wrM M a t).L.length = M.L.length := by unfold wrM; split <;> rfl
theorem flM_len (M : Mst) : (flM M).L.length = M.L.length := by
  unfold flM; split
  · rfl
  · show (flL M.L M.V fun _ => true).length = _
    exact flL_len _ _ _
theorem roM_len (M : Mst) (a b c : Int) : (roM M a b c).L.length = M.L.length := by
  unfold roM; split
  · exact List.length_set ..
  · rfl
theorem crashM_len (M : Mst) (ch : List Int) : (crashM M ch).L.length = M.L.length := crL_len _ _ _ _ _
section
variable {w w1 : World} {S : Nat → Prop} {k n : Nat} {R : Rk}
set_option maxHeartbeats 1000000 in
theorem kt_write (h : KA w S w1 k n R) (s : Int) (at_ : Int) (t : ByteArray) (htz : t.size ≤ 140737488355328) (hk : ROk n R 1000000000000) :
    Calls Try.prog 42 #[.pointer (some ⟨k, 0, none⟩), .int .i64 s, .int .i64 at_, .string t] w1 (KDoes w S w1 k n (wrR n R s at_ t) (.int .i64 (wrRE n R s at_ t))) := by
  obtain ⟨q, cap, Tm, mm, sec, ar, hB, hr, hl⟩ := h.h
  have ca := kact hB s hr hk
  obtain ⟨E, hE⟩ : ∃ e, akE n R s = e := ⟨_, rfl⟩
  have hM1 : (akR n R s).M = R.M := by unfold akR; split <;> rfl
  by_cases e0 : akE n R s = 0
  · obtain ⟨i, rfl, hi, ho, ha⟩ := akE_ok e0
    have hV : VOk (R.M i) := hk.2.2 i hi
    unfold wrR wrRE
    rw [if_pos e0, if_pos e0, Int.toNat_natCast]
    rw [e0] at ca
    have hk' : (i : Int) < (n : Int) := by omega
    obtain ⟨E1, hE1⟩ : ∃ e, wrE (R.M i) at_ t = e := ⟨_, rfl⟩
    rw [hE1]
    have hEH := Lib.hid hE1
    clear hE hE1
    go_enter Try.func42, Try.ntmps42
    go_wp2_with (fail)
    refine ca.mono ?_
    rintro e w2 ⟨rfl, s2, hB2, hr2⟩
    have c0 := hB2.c0
    have cs := hB2.slot hi
    have hma := KBox.qa (h.b.trans (s2.below h.f h.b.size)) h.f hB2 hi
    rw [hM1] at hma
    have cm := qa_write hma at_ t hV htz
    have hH := Lib.hid (And.intro h (And.intro s2 (And.intro hB2 (And.intro hr2 hl))))
    rw [hEH.out] at cm
    clear h hB ca hma hB2 s2 hEH e0 hr2 hl
    go_wp2_with (fail)
    refine cm.mono ?_
    rintro e w3 ⟨rfl, T', hs3, hm3⟩
    have hfin := Lib.hid (KBox.does (R' := akR n R (i : Int)) hH.out.1 hH.out.2.1 hH.out.2.2.1 hH.out.2.2.2.1 (by rw [hM1]; exact hH.out.2.2.2.2) hi (by rw [hM1]; exact wrM_len _ _ _) hs3 hm3)
    rw [hM1] at hfin
    clear cm hs3 hm3 hH
    go_wp2_with (fail)
    go_ret
    exact ⟨rfl, hfin.out⟩
  · unfold wrR wrRE
    rw [if_neg e0, if_neg e0]
    rw [hE] at ca e0 ⊢
    have eb : (E != 0) = true := by rw [bne_iff_ne]; exact e0
    have ec : (E == 0) = false := by rw [beq_eq_false_iff_ne]; exact e0
    clear hE
    go_enter Try.func42, Try.ntmps42
    go_wp2_with (fail)
    refine ca.mono ?_
    rintro e w2 ⟨rfl, s2, hB2, hr2⟩
    have hfin := Lib.hid (And.intro s2 (h.made s2 hB2 hr2 (by rw [hM1]; exact hl)))
    clear h hB ca hB2 s2 hk hr2 hl
    go_wp2_with (fail)
    go_ret
    exact ⟨rfl, S, hfin.out⟩
set_option maxHeartbeats 1000000 in
theorem kt_flush (h : KA w S w1 k n R) (s : Int) (hk : ROk n R 1000000000000) :
    Calls Try.prog 44 #[.pointer (some ⟨k, 0, none⟩), .int .i64 s] w1 (KDoes w S w1 k n (flR n R s) (.int .i64 (flRE n R s))) := by
  obtain ⟨q, cap, Tm, mm, sec, ar, hB, hr, hl⟩ := h.h
  have ca := kact hB s hr hk
  obtain ⟨E, hE⟩ : ∃ e, akE n R s = e := ⟨_, rfl⟩
  have hM1 : (akR n R s).M = R.M := by unfold akR; split <;> rfl
  by_cases e0 : akE n R s = 0
  · obtain ⟨i, rfl, hi, ho, ha⟩ := akE_ok e0
    have hV : VOk (R.M i) := hk.2.2 i hi
    unfold flR flRE
    rw [if_pos e0, if_pos e0, Int.toNat_natCast]
    rw [e0] at ca
    have hk' : (i : Int) < (n : Int) := by omega
    obtain ⟨E1, hE1⟩ : ∃ e, flE (R.M i) = e := ⟨_, rfl⟩
    rw [hE1]
    have hEH := Lib.hid hE1
    clear hE hE1
    go_enter Try.func44, Try.ntmps44
    go_wp2_with (fail)
    refine ca.mono ?_
    rintro e w2 ⟨rfl, s2, hB2, hr2⟩
    have c0 := hB2.c0
    have cs := hB2.slot hi
    have hma := KBox.qa (h.b.trans (s2.below h.f h.b.size)) h.f hB2 hi
    rw [hM1] at hma
    have cm := qa_flush hma hV
    have hH := Lib.hid (And.intro h (And.intro s2 (And.intro hB2 (And.intro hr2 hl))))
    rw [hEH.out] at cm
    clear h hB ca hma hB2 s2 hEH e0 hr2 hl
    go_wp2_with (fail)
    refine cm.mono ?_
    rintro e w3 ⟨rfl, T', hs3, hm3⟩
    have hfin := Lib.hid (KBox.does (R' := akR n R (i : Int)) hH.out.1 hH.out.2.1 hH.out.2.2.1 hH.out.2.2.2.1 (by rw [hM1]; exact hH.out.2.2.2.2) hi (by rw [hM1]; exact flM_len _) hs3 hm3)
    rw [hM1] at hfin
    clear cm hs3 hm3 hH
    go_wp2_with (fail)
    go_ret
    exact ⟨rfl, hfin.out⟩
  · unfold flR flRE
    rw [if_neg e0, if_neg e0]
    rw [hE] at ca e0 ⊢
    have eb : (E != 0) = true := by rw [bne_iff_ne]; exact e0
    have ec : (E == 0) = false := by rw [beq_eq_false_iff_ne]; exact e0
    clear hE
    go_enter Try.func44, Try.ntmps44
    go_wp2_with (fail)
    refine ca.mono ?_
    rintro e w2 ⟨rfl, s2, hB2, hr2⟩
    have hfin := Lib.hid (And.intro s2 (h.made s2 hB2 hr2 (by rw [hM1]; exact hl)))
    clear h hB ca hB2 s2 hk hr2 hl
    go_wp2_with (fail)
    go_ret
    exact ⟨rfl, S, hfin.out⟩
theorem kt_read (h : KA w S w1 k n R) (s at_ : Int) (hk : ROk n R 1000000000000) :
    Calls Try.prog 56 #[.pointer (some ⟨k, 0, none⟩), .int .i64 s, .int .i64 at_] w1 fun e w' => e = .returned (.tuple #[.string (rdRS n R s at_), .int .i64 (rdRE n R s at_)]) ∧ w1 = w' := by
  obtain ⟨q, cap, Tm, mm, sec, ar, hB, hr, hl⟩ := h.h
  have cr := kreach hB s
  unfold rdRS rdRE
  by_cases e0 : rhE n R s = 0
  · obtain ⟨i, rfl, hi, ho⟩ := rhE_ok e0
    rw [if_pos e0, if_pos e0, Int.toNat_natCast]
    rw [e0] at cr
    have hk' : (i : Int) < (n : Int) := by omega
    have c0 := hB.c0
    have cs := hB.slot hi
    have cm := qa_read (KBox.qa h.b h.f hB hi) at_ (hk.2.2 i hi)
    generalize rdS (R.M i) at_ = x at *
    generalize rdE (R.M i) at_ = y at *
    clear h hB hk e0 hr hl
    go_enter Try.func56, Try.ntmps56
    go_wp2_with (fail)
    refine cr.mono ?_
    rintro e w' ⟨rfl, rfl⟩
    go_wp2_with (fail)
    refine cm.mono ?_
    rintro e w3 ⟨rfl, rfl⟩
    go_wp2_with (fail)
    go_ret2
    exact ⟨rfl, rfl⟩
  · rw [if_neg e0, if_neg e0]
    obtain ⟨E, hE⟩ : ∃ e, rhE n R s = e := ⟨_, rfl⟩
    rw [hE] at cr e0 ⊢
    have eb : (E != 0) = true := by rw [bne_iff_ne]; exact e0
    have ec : (E == 0) = false := by rw [beq_eq_false_iff_ne]; exact e0
    clear h hB hk hE hr hl
    go_enter Try.func56, Try.ntmps56
    go_wp2_with (fail)
    refine cr.mono ?_
    rintro e w' ⟨rfl, rfl⟩
    go_wp2_with (fail)
    go_ret2
    exact ⟨rfl, rfl⟩
theorem kt_arm (h : KA w S w1 k n R) (a : Int) (hk : ROk n R 1000000000000) : Calls Try.prog 46 #[.pointer (some ⟨k, 0, none⟩), .int .i64 a] w1 (KDoes w S w1 k n (arR R a) (.int .i64 (arE a))) := by
  unfold arR arE
  by_cases e : arOk a = true
  · rw [if_pos e, if_pos e]
    unfold arOk at e
    rw [Bool.and_eq_true, decide_eq_true_iff, decide_eq_true_iff] at e
    obtain ⟨q, cap, Tm, mm, sec, ar, hB, hr, hl⟩ := h.h
    obtain ⟨⟨ha1, ha2⟩, _, _⟩ := hk
    have t1 : decide (a < 0) = false := decide_eq_false (by omega)
    have t2 : decide ((1099511627776 : Int) < a) = false := decide_eq_false (by omega)
    have c3 := hB.c3
    have f3 := hB.f 3
    obtain ⟨h1, s1⟩ := hB.setK 3 (.int .i64 0) R.acts 0 R.off rfl
    have c2 := h1.c2
    have c31 := h1.c3
    have f31 := h1.f 3
    by_cases h0 : 0 < a
    · have wa : IntKind.i64.wrap (R.acts + a) = R.acts + a := wrap_in (by omega) (by omega)
      obtain ⟨h2, s2⟩ := h1.setK 3 (.int .i64 (R.acts + a)) R.acts (R.acts + a) R.off rfl
      have hfin := Lib.hid (And.intro (s1.trans s2) (h.made (R' := { R with armed := a }) (s1.trans s2) h2 (.inr ⟨h0, rfl⟩) hl))
      generalize R.acts = ac at *
      clear h hB h1 s1 h2 s2 hr hl e ha1 ha2
      go_enter Try.func46, Try.ntmps46
      go_wp2_with (fail)
      go_ret
      exact ⟨rfl, S, hfin.out⟩
    · have ha0 : a = 0 := by omega
      have hfin := Lib.hid (And.intro s1 (h.made (R' := { R with armed := a }) s1 h1 (.inl ⟨ha0, Int.le_refl _, ha1⟩) hl))
      generalize R.acts = ac at *
      clear h hB h1 s1 hr hl e ha1 ha2 ha0
      go_enter Try.func46, Try.ntmps46
      go_wp2_with (fail)
      go_ret
      exact ⟨rfl, S, hfin.out⟩
  · rw [if_neg e, if_neg e]
    unfold arOk at e
    by_cases h0 : a < 0
    · have t1 : decide (a < 0) = true := decide_eq_true h0
      have hH := Lib.hid h
      clear h e h0
      go_enter Try.func46, Try.ntmps46
      go_wp2_with (fail)
      go_ret
      exact ⟨rfl, S, Stp.refl _ _, hH.out⟩
    · have t1 : decide (a < 0) = false := decide_eq_false h0
      have t2 : decide ((1099511627776 : Int) < a) = true := by
        refine decide_eq_true ?_
        rw [decide_eq_true (by omega : 0 ≤ a), Bool.true_and, decide_eq_true_iff] at e
        omega
      have hH := Lib.hid h
      clear h e h0
      go_enter Try.func46, Try.ntmps46
      go_wp2_with (fail)
      go_ret
      exact ⟨rfl, S, Stp.refl _ _, hH.out⟩
theorem kt_fail (h : KA w S w1 k n R) (s : Int) :
    Calls Try.prog 50 #[.pointer (some ⟨k, 0, none⟩), .int .i64 s] w1 (KDoes w S w1 k n (upR n R s faM) (.bool (hasK n s))) := by
  unfold upR
  obtain ⟨q, cap, Tm, mm, sec, ar, hB, hr, hl⟩ := h.h
  have ch := khas_any hB s
  rcases hasK_or n s with h1 | ⟨i, rfl, h2, h3⟩
  · rw [if_neg (by rw [h1]; simp)]
    rw [h1] at ch ⊢
    have hH := Lib.hid h
    clear h hB h1 hr hl
    go_enter Try.func50, Try.ntmps50
    go_wp2_with (fail)
    refine ch.mono ?_
    rintro e w' ⟨rfl, rfl⟩
    go_wp2_with (fail)
    go_ret
    exact ⟨rfl, S, Stp.refl _ _, hH.out⟩
  · rw [if_pos h3, h3, Int.toNat_natCast]
    rw [h3] at ch
    have hk' : (i : Int) < (n : Int) := by omega
    have c0 := hB.c0
    have cs := hB.slot h2
    have cm := qa_fail (KBox.qa h.b h.f hB h2)
    have hH := Lib.hid (And.intro h (And.intro hB (And.intro hr hl)))
    clear h hB hr hl h3
    go_enter Try.func50, Try.ntmps50
    go_wp2_with (fail)
    refine ch.mono ?_
    rintro e w' ⟨rfl, rfl⟩
    go_wp2_with (fail)
    refine cm.mono ?_
    rintro e w3 ⟨rfl, T', hs3, hm3⟩
    have hfin := Lib.hid (KBox.does hH.out.1 (Stp.refl _ _) hH.out.2.1 hH.out.2.2.1 hH.out.2.2.2 h2 (List.length_replicate) hs3 hm3)
    clear cm hs3 hm3 hH
    go_wp2_with (fail)
    go_ret
    exact ⟨rfl, hfin.out⟩
theorem kt_blank (h : KA w S w1 k n R) (s : Int) :
    Calls Try.prog 52 #[.pointer (some ⟨k, 0, none⟩), .int .i64 s] w1 (KDoes w S w1 k n (upR n R s blM) (.bool (hasK n s))) := by
  unfold upR
  obtain ⟨q, cap, Tm, mm, sec, ar, hB, hr, hl⟩ := h.h
  have ch := khas_any hB s
  rcases hasK_or n s with h1 | ⟨i, rfl, h2, h3⟩
  · rw [if_neg (by rw [h1]; simp)]
    rw [h1] at ch ⊢
    have hH := Lib.hid h
    clear h hB h1 hr hl
    go_enter Try.func52, Try.ntmps52
    go_wp2_with (fail)
    refine ch.mono ?_
    rintro e w' ⟨rfl, rfl⟩
    go_wp2_with (fail)
    go_ret
    exact ⟨rfl, S, Stp.refl _ _, hH.out⟩
  · rw [if_pos h3, h3, Int.toNat_natCast]
    rw [h3] at ch
    have hk' : (i : Int) < (n : Int) := by omega
    have c0 := hB.c0
    have cs := hB.slot h2
    have cm := qa_blank (KBox.qa h.b h.f hB h2)
    have hH := Lib.hid (And.intro h (And.intro hB (And.intro hr hl)))
    clear h hB hr hl h3
    go_enter Try.func52, Try.ntmps52
    go_wp2_with (fail)
    refine ch.mono ?_
    rintro e w' ⟨rfl, rfl⟩
    go_wp2_with (fail)
    refine cm.mono ?_
    rintro e w3 ⟨rfl, T', hs3, hm3⟩
    have hfin := Lib.hid (KBox.does hH.out.1 (Stp.refl _ _) hH.out.2.1 hH.out.2.2.1 hH.out.2.2.2 h2 (List.length_replicate) hs3 hm3)
    clear cm hs3 hm3 hH
    go_wp2_with (fail)
    go_ret
    exact ⟨rfl, hfin.out⟩
theorem kt_rot (h : KA w S w1 k n R) (s a j b : Int) :
    Calls Try.prog 54 #[.pointer (some ⟨k, 0, none⟩), .int .i64 s, .int .i64 a, .int .i64 j, .int .i64 b] w1 (KDoes w S w1 k n (upR n R s (fun M => roM M a j b)) (.bool (roRB n R s a j b))) := by
  unfold upR roRB
  obtain ⟨q, cap, Tm, mm, sec, ar, hB, hr, hl⟩ := h.h
  have ch := khas_any hB s
  rcases hasK_or n s with h1 | ⟨i, rfl, h2, h3⟩
  · rw [if_neg (by rw [h1]; simp)]
    rw [h1] at ch ⊢
    rw [Bool.false_and]
    have hH := Lib.hid h
    clear h hB h1 hr hl
    go_enter Try.func54, Try.ntmps54
    go_wp2_with (fail)
    refine ch.mono ?_
    rintro e w' ⟨rfl, rfl⟩
    go_wp2_with (fail)
    go_ret
    exact ⟨rfl, S, Stp.refl _ _, hH.out⟩
  · rw [if_pos h3, h3, Int.toNat_natCast]
    rw [Bool.true_and]
    rw [h3] at ch
    have hk' : (i : Int) < (n : Int) := by omega
    have c0 := hB.c0
    have cs := hB.slot h2
    have cm := qa_rot (KBox.qa h.b h.f hB h2) a j b
    have hH := Lib.hid (And.intro h (And.intro hB (And.intro hr hl)))
    generalize rotB (R.M i).fd (R.M i).L (R.M i).V a j b = E1 at *
    clear h hB hr hl h3
    go_enter Try.func54, Try.ntmps54
    go_wp2_with (fail)
    refine ch.mono ?_
    rintro e w' ⟨rfl, rfl⟩
    go_wp2_with (fail)
    refine cm.mono ?_
    rintro e w3 ⟨rfl, T', hs3, hm3⟩
    have hfin := Lib.hid (KBox.does hH.out.1 (Stp.refl _ _) hH.out.2.1 hH.out.2.2.1 hH.out.2.2.2 h2 (roM_len _ _ _ _) hs3 hm3)
    clear cm hs3 hm3 hH
    go_wp2_with (fail)
    go_ret
    exact ⟨rfl, hfin.out⟩
theorem kt_alive (h : KA w S w1 k n R) (s : Int) : Calls Try.prog 58 #[.pointer (some ⟨k, 0, none⟩), .int .i64 s] w1 (fun e w' => e = .returned (.bool (alR n R s)) ∧ w1 = w') := by
  unfold alR
  obtain ⟨q, cap, Tm, mm, sec, ar, hB, hr, hl⟩ := h.h
  have ch := khas_any hB s
  rcases hasK_or n s with h1 | ⟨i, rfl, h2, h3⟩
  · rw [h1] at ch ⊢
    clear h hB h1 hr hl
    rw [Bool.false_and]
    go_enter Try.func58, Try.ntmps58
    go_wp2_with (fail)
    refine ch.mono ?_
    rintro e w' ⟨rfl, rfl⟩
    go_wp2_with (fail)
    go_ret
    exact ⟨rfl, rfl⟩
  · rw [h3] at ch ⊢
    rw [Int.toNat_natCast]
    have hk' : (i : Int) < (n : Int) := by omega
    have c0 := hB.c0
    have cs := hB.slot h2
    rw [Bool.true_and]
    have cm := qa_alive (KBox.qa h.b h.f hB h2)
    generalize (!(R.M i).fd) = E1 at *
    clear h hB hr hl h3
    go_enter Try.func58, Try.ntmps58
    go_wp2_with (fail)
    refine ch.mono ?_
    rintro e w' ⟨rfl, rfl⟩
    go_wp2_with (fail)
    refine cm.mono ?_
    rintro e w' ⟨rfl, rfl⟩
    go_wp2_with (fail)
    go_ret
    exact ⟨rfl, rfl⟩
theorem kt_image (h : KA w S w1 k n R) (s : Int) : Calls Try.prog 62 #[.pointer (some ⟨k, 0, none⟩), .int .i64 s] w1 (GivesQ w1 (imR n R s)) := by
  unfold imR
  obtain ⟨q, cap, Tm, mm, sec, ar, hB, hr, hl⟩ := h.h
  have ch := khas_any hB s
  rcases hasK_or n s with h1 | ⟨i, rfl, h2, h3⟩
  · rw [h1] at ch ⊢
    clear h hB h1 hr hl
    rw [if_neg Bool.false_ne_true]
    go_enter Try.func62, Try.ntmps62
    go_wp2_with (fail)
    refine ch.mono ?_
    rintro e w' ⟨rfl, rfl⟩
    go_wp2_with (fail)
    go_ret
    exact ⟨_, rfl, Below.refl _ _, Own.nil _ _ _⟩
  · rw [h3] at ch ⊢
    rw [Int.toNat_natCast]
    have hk' : (i : Int) < (n : Int) := by omega
    have c0 := hB.c0
    have cs := hB.slot h2
    rw [if_pos rfl]
    have cm := qa_image (KBox.qa h.b h.f hB h2)
    generalize imL (R.M i) = E1 at *
    clear h hB hr hl h3
    go_enter Try.func62, Try.ntmps62
    go_wp2_with (fail)
    refine ch.mono ?_
    rintro e w' ⟨rfl, rfl⟩
    go_wp2_with (fail)
    refine cm.mono ?_
    rintro e w3 ⟨v, rfl, b3, o3⟩
    go_wp2_with (fail)
    go_ret
    exact ⟨v, rfl, b3, o3⟩
theorem kt_pending (h : KA w S w1 k n R) (s : Int) : Calls Try.prog 60 #[.pointer (some ⟨k, 0, none⟩), .int .i64 s] w1 (fun e w' => e = .returned (.int .i64 (peR n R s)) ∧ Below w1.heap.size w1 w') := by
  unfold peR
  obtain ⟨q, cap, Tm, mm, sec, ar, hB, hr, hl⟩ := h.h
  have ch := khas_any hB s
  rcases hasK_or n s with h1 | ⟨i, rfl, h2, h3⟩
  · rw [h1] at ch ⊢
    clear h hB h1 hr hl
    rw [if_neg Bool.false_ne_true]
    go_enter Try.func60, Try.ntmps60
    go_wp2_with (fail)
    refine ch.mono ?_
    rintro e w' ⟨rfl, rfl⟩
    go_wp2_with (fail)
    go_ret
    exact ⟨rfl, Below.refl _ _⟩
  · rw [h3] at ch ⊢
    rw [Int.toNat_natCast]
    have hk' : (i : Int) < (n : Int) := by omega
    have c0 := hB.c0
    have cs := hB.slot h2
    rw [if_pos rfl]
    have cm := qa_pend (KBox.qa h.b h.f hB h2)
    generalize pend (R.M i).L.length (R.M i).V = P at *
    clear h hB hr hl h3
    go_enter Try.func60, Try.ntmps60
    go_wp2_with (fail)
    refine ch.mono ?_
    rintro e w' ⟨rfl, rfl⟩
    go_wp2_with (fail)
    refine cm.mono ?_
    rintro e w3 ⟨v, rfl, b3, o3⟩
    have hl := fun W => o3.reads.len_run (P := Try.prog) Try.underlying31 3 W
    rw [List.length_map] at hl
    clear o3 cm
    go_wp2_with (fail)
    go_ret
    exact ⟨rfl, b3⟩
theorem kt_off (h : KA w S w1 k n R) : Calls Try.prog 77 #[.pointer (some ⟨k, 0, none⟩)] w1 fun e w' => e = .returned (.bool R.off) ∧ w1 = w' := by
  obtain ⟨q, cap, Tm, mm, sec, ar, hB, hr, hl⟩ := h.h
  have c4 := hB.c4
  clear h hB hr hl
  go_enter Try.func77, Try.ntmps77
  go_wp2_with (fail)
  go_ret
  exact ⟨rfl, rfl⟩
theorem kt_acts (h : KA w S w1 k n R) : Calls Try.prog 78 #[.pointer (some ⟨k, 0, none⟩)] w1 fun e w' => e = .returned (.int .i64 R.acts) ∧ w1 = w' := by
  obtain ⟨q, cap, Tm, mm, sec, ar, hB, hr, hl⟩ := h.h
  have c2 := hB.c2
  clear h hB hr hl
  go_enter Try.func78, Try.ntmps78
  go_wp2_with (fail)
  go_ret
  exact ⟨rfl, rfl⟩
theorem kt_slots (h : KA w S w1 k n R) : Calls Try.prog 79 #[.pointer (some ⟨k, 0, none⟩)] w1 fun e w' => e = .returned (.int .i64 (n : Int)) ∧ w1 = w' := by
  obtain ⟨q, cap, Tm, mm, sec, ar, hB, hr, hl⟩ := h.h
  have c0 := hB.c0
  have hln := hB.len
  clear h hB hr hl
  go_enter Try.func79, Try.ntmps79
  go_wp2_with (fail)
  go_ret
  exact ⟨rfl, rfl⟩
theorem kt_sectors (h : KA w S w1 k n R) : Calls Try.prog 80 #[.pointer (some ⟨k, 0, none⟩)] w1 fun e w' => e = .returned (.int .i64 ((R.M 0).L.length : Int)) ∧ w1 = w' := by
  obtain ⟨q, cap, Tm, mm, sec, ar, hB, hr, hl⟩ := h.h
  have c1 := hB.c1
  rw [← hl 0 hB.n1] at c1
  clear h hB hr hl
  go_enter Try.func80, Try.ntmps80
  go_wp2_with (fail)
  go_ret
  exact ⟨rfl, rfl⟩
set_option maxHeartbeats 4000000 in
theorem kt_restart (h : KA w S w1 k n R) (vv : Value) (l : List (Value × List Int)) (hc : ChR w1 vv l) (ha : ChA vv l S) (hln : l.length ≤ 140737488355328) (hk : ROk n R 1000000000000) :
    Calls Try.prog 48 #[.pointer (some ⟨k, 0, none⟩), vv] w1 (KDoes w S w1 k n (reR R l) (.tuple #[])) := by
  obtain ⟨q, cap, Tm, mm, sec, ar, hB, hr, hl⟩ := h.h
  have hlenv := fun W => hc.o.len_run (P := Try.prog) Try.underlying57 3 W
  rw [List.length_map] at hlenv
  have hlenq := hB.len
  have hn7 := hB.n7
  have hacts := hk.1.1
  have hv : ∀ i, i < n → VOk (R.M i) := fun i hi => hk.2.2 i hi
  obtain ⟨pv, pc, rfl, pcell⟩ := hc.o.items
  have hMade := Lib.hid h
  have hsq : ∀ x, S x → x < w1.heap.size := hB.lt
  go_enter Try.func48, Try.ntmps48
  go_wp2_with (fail)
  go_loopw [4] (fun t wr => ∃ (j : Nat) (S' : Nat → Prop) (T' : Nat → Nat → Prop), j ≤ n ∧ t = .int .i64 (j : Int) ∧ Stp S S' w1 wr ∧ KBox wr S' k n q cap T' mm (fun i => if i < j then crashM (R.M i) (chs l i) else R.M i) sec R.acts ar R.off) (fun t _ => n - (intOf t).toNat)
  case atStart => exact ⟨0, S, Tm, by omega, rfl, Stp.refl _ _, hB.congr (fun i _ => by rw [if_neg (by omega)])⟩
  case round =>
    clear hB h
    obtain ⟨j, S', T', hj, rfl, hS, hB⟩ := hrel
    have c0 := hB.c0
    by_cases hlt : j < n
    · have j1 : (j : Int) < (n : Int) := by omega
      have j2 : (j : Int) + 1 ≤ 8 := by omega
      have cs := hB.slot hlt
      have hc2 := hc.step hS ha
      have hS'f : ∀ x, S' x → w.heap.size ≤ x := fun x hx => by
        rcases hS.grow x hx with z | z
        · exact hMade.out.f x z
        · exact Nat.le_trans hMade.out.b.size z
      have hqa := KBox.qa (hMade.out.b.trans (hS.below hMade.out.f hMade.out.b.size)) hS'f hB hlt
      simp only [if_neg (Nat.lt_irrefl j)] at hqa
      have hTS : ∀ x, T' j x → S x ∨ w1.heap.size ≤ x := fun x hx => hS.grow x (hB.tS j x hlt hx).1
      have hM2 : ∀ i, (fun i => if i < j + 1 then crashM (R.M i) (chs l i) else R.M i) i = upd (fun i => if i < j then crashM (R.M i) (chs l i) else R.M i) j (crashM (R.M j) (chs l j)) i := fun i => by
        unfold upd
        show (if i < j + 1 then _ else _) = _
        by_cases e : i = j
        · subst e; rw [if_pos rfl, if_pos (by omega)]
        · rw [if_neg e]
          show _ = (if i < j then _ else _)
          by_cases e2 : i < j
          · rw [if_pos e2, if_pos (by omega)]
          · rw [if_neg e2, if_neg (by omega)]
      by_cases hjl : j < l.length
      · obtain ⟨cb, co, rfl, clt, cc⟩ := pcell j hjl
        have hx := List.getElem_mem hjl
        have e1 : chs l j = l[j].2 := by unfold chs; rw [List.getD_eq_getElem?_getD, List.getElem?_eq_getElem hjl]; rfl
        have cc2 : wr.cell? ⟨cb, co + j, none⟩ = some l[j].1 := by
          rw [← cc]
          exact cell_of_heap (hS.oth cb clt (ha.1 (fun e => by rw [e] at hjl; exact absurd hjl (Nat.not_lt_zero _)) cb rfl)) _
        have hno : l[j].2 ≠ [] → ∀ b, l[j].1.ownBlock = some b → ¬ T' j b := fun hne b hb hT => by
          rcases hTS b hT with z | z
          · exact ha.2 _ hx hne b hb z
          · have := (hc.c _ hx).1.blk (by simpa using hne) b hb; omega
        have cm := qa_crash hqa l[j].1 l[j].2 (hc2.c _ hx).1 hno (hc2.c _ hx).2.1 (hc2.c _ hx).2.2 (hv j hlt)
        rw [← e1] at cm
        have jl : (j : Int) < (l.length : Int) := by omega
        generalize l[j].1 = u at *
        clear cc hc2 hqa hx e1 hjl hno
        go_wp2_with (fail)
        refine cm.mono ?_
        rintro e w4 ⟨rfl, T4, hs4, hm4⟩
        obtain ⟨q4, cap4, F4, hf4, hp4⟩ := QS.h hm4
        obtain ⟨S5, s5, hB5⟩ := hB.turn (st := crashM (R.M j) (chs l j)) hlt hs4 ⟨q4, cap4, F4, hp4⟩
        have hrel2 := Lib.hid (And.intro (hS.trans s5) (hB5.congr (fun i _ => hM2 i)))
        clear hB hS hs4 hp4 hm4 s5 hB5 cm hM2 hTS
        go_wp2_with (fail)
        go_roundw
        case rel => exact ⟨j + 1, S5, _, by omega, by go_num, hrel2.out⟩
        case measure => simp [intOf]; omega
      · have e1 : chs l j = [] := by unfold chs; rw [List.getD_eq_getElem?_getD, List.getElem?_eq_none (by omega)]; rfl
        have cm := qa_crash hqa (.slice none 0 0) [] (.inl ⟨⟨_, _, rfl⟩, rfl⟩) (fun hne => absurd rfl hne) (fun c hc => by cases hc) (by simp) (hv j hlt)
        rw [← e1] at cm
        have jl : ¬ (j : Int) < (l.length : Int) := by omega
        clear hc2 hqa e1 hjl
        go_wp2_with (fail)
        refine cm.mono ?_
        rintro e w4 ⟨rfl, T4, hs4, hm4⟩
        obtain ⟨q4, cap4, F4, hf4, hp4⟩ := QS.h hm4
        obtain ⟨S5, s5, hB5⟩ := hB.turn (st := crashM (R.M j) (chs l j)) hlt hs4 ⟨q4, cap4, F4, hp4⟩
        have hrel2 := Lib.hid (And.intro (hS.trans s5) (hB5.congr (fun i _ => hM2 i)))
        clear hB hS hs4 hp4 hm4 s5 hB5 cm hM2 hTS
        go_wp2_with (fail)
        go_roundw
        case rel => exact ⟨j + 1, S5, _, by omega, by go_num, hrel2.out⟩
        case measure => simp [intOf]; omega
    · obtain rfl : j = n := by omega
      have c4 := hB.c4
      have f4 := hB.f 4
      obtain ⟨h5, s5⟩ := hB.setK 4 (.bool false) R.acts ar false rfl
      have c3 := h5.c3
      have f3 := h5.f 3
      obtain ⟨h6, s6⟩ := h5.setK 3 (.int .i64 0) R.acts 0 false rfl
      have hS6 := hS.trans (s5.trans s6)
      have hfin := Lib.hid (And.intro hS6 (hMade.out.made (R' := reR R l) hS6 (h6.congr (M' := fun i => crashM (R.M i) (chs l i)) (fun i hi => by rw [if_pos hi])) (.inl ⟨rfl, Int.le_refl _, hacts⟩) (fun i hi => by
        show ((crashM (R.M i) (chs l i)).L.length : Int) = sec
        rw [crashM_len]; exact hl i hi)))
      generalize R.acts = ac at *
      generalize R.off = of at *
      clear hB h5 h6 s5 s6 hS hS6 hlt hl hr hk hacts
      go_wp2_with (fail)
      go_end0
      exact ⟨rfl, S', hfin.out⟩
end
theorem qptr_is : ∃ i, Try.prog.info? 28 = some i ∧ i.zero = some (.pointer none) ∧ i.size = 1 ∧ i.bytes = 8 := (cont_gen (P := Try.prog) (t := 28) (c := .pointer none) (n := 1) (k := 8) (by kernel_rfl)).2
/-- A rack of the document that is being made. -/
structure NK (w : World) (k j : Nat) (sv : Value) (T : Nat → Nat → Prop) (mm : Nat → Nat) (s : Nat) : Prop where
  b : w.heap[k]? = some (.cells #[sv, .int .i64 (s : Int), .int .i64 0, .int .i64 0, .bool false] 95 (0, 0))
  l : Own w (k + 1) 28 sv (rowV j fun i => .pointer (some ⟨mm i, 0, none⟩))
  p : ∀ i, i < j → QB w (T i) (mm i) ⟨false, List.replicate s zero128, noV⟩
  dj : ∀ a c x, a < j → c < j → a ≠ c → T a x → ¬ T c x
  tk : ∀ i x, i < j → T i x → k < x ∧ sv.ownBlock ≠ some x
  kl : k < w.heap.size
section
variable {w w2 : World} {k j : Nat} {sv : Value} {T : Nat → Nat → Prop} {mm : Nat → Nat} {s : Nat}
theorem NK.c0 (h : NK w k j sv T mm s) : w.cell? ⟨k, 0, none⟩ = some sv := by simp [World.cell?, h.b]
theorem NK.after (h : NK w k j sv T mm s) (hb : Below w.heap.size w w2) : NK w2 k j sv T mm s :=
  ⟨(hb.block k h.kl).trans h.b, h.l.after hb, fun i hi => (h.p i hi).heap (fun x hx => hb.block x ((h.p i hi).lt x hx)) hb.size, h.dj, h.tk, Nat.lt_of_lt_of_le h.kl hb.size⟩
theorem NK.push (h : NK w k j sv T mm s) (hb : Below w.heap.size w w2) (hj : j ≤ 7) {S' : Nat → Prop} {m : Nat} (hP : QB w2 S' m ⟨false, List.replicate s zero128, noV⟩) (hS : ∀ x, S' x → w.heap.size ≤ x) :
    ∃ v' w3, (∃ a n c, v' = .slice a n c) ∧ (Builtin.append_ #[93, 93] 93 #[sv, .slice (some ⟨w2.heap.size, 0, none⟩) 1 1]).run Try.prog (w2.alloc (.cells #[.pointer (some ⟨m, 0, none⟩)] 28)) = .ok v' w3 ∧
      w3.cell? ⟨k, 0, none⟩ = some sv ∧ w3.frozen? ⟨k, 0, none⟩ = false ∧ NK (w3.setCell ⟨k, 0, none⟩ v') k (j + 1) v' (upd T j S') (upd mm j m) s ∧ Below k w2 (w3.setCell ⟨k, 0, none⟩ v') := by
  obtain ⟨si, s1, s2, s3, s4⟩ := qptr_is
  have h2 := h.after hb
  obtain ⟨v', w3, hap, ho, hb3, hk, hv⟩ := Own.pushA (P := Try.prog) (T := 93) Try.underlying93 s1 s2 s3 s4 rfl h2.l (.pointer (some ⟨m, 0, none⟩)) rfl h2.kl (by rw [rowV_len]; omega) (by rw [rowV_len]; omega)
  obtain ⟨gv, cv, ev, _, _⟩ := ho.form (by simp)
  have kb : w3.heap[k]? = some (.cells #[sv, .int .i64 (s : Int), .int .i64 0, .int .i64 0, .bool false] 95 (0, 0)) := (hb3.block k (by omega)).trans h2.b
  have k5 : ∀ x, x ≠ k → (w3.setCell ⟨k, 0, none⟩ v').heap[x]? = w3.heap[x]? := fun x hx => Below.heap_setCell _ _ _ _ hx
  have vnew : ∀ x, v'.ownBlock = some x → sv.ownBlock = some x ∨ x = w2.heap.size + 1 := fun x e => by
    rcases hv with z | z
    · exact .inl (by rw [← z]; exact e)
    · rw [z] at e; injection e with e; exact .inr e.symm
  have svn : ∀ x, S' x → sv.ownBlock ≠ some x := fun x hx e => by have := (h.l.o.lt x e).2; have := hS x hx; omega
  have hkw : k < w.heap.size := h.kl
  refine ⟨v', w3, ⟨_, _, _, ev⟩, hap, by simp [World.cell?, kb], by simp [World.frozen?, kb], ⟨?_, ?_, fun i hi => ?_, fun a c x ha hc hne hx => ?_, fun i x hi hx => ?_, ?_⟩, (hb3.mono (Nat.le_succ k)).setCell (p := ⟨k, 0, none⟩) (Nat.le_refl k) v'⟩
  · simp [World.setCell, Array.getElem?_modify, kb]
  · have e : rowV j (fun i => Value.pointer (some ⟨mm i, 0, none⟩)) ++ [.pointer (some ⟨m, 0, none⟩)] = rowV (j + 1) fun i => .pointer (some ⟨upd mm j m i, 0, none⟩) := by
      unfold rowV
      rw [List.range_succ, List.map_append]
      congr 1
      · apply List.map_congr_left
        intro i hi
        have := List.mem_range.1 hi
        rw [upd_other _ _ _ _ (by omega)]
      · simp [upd]
    rw [e] at ho
    exact ho.sameAt fun x hx => k5 x (by have := (ho.o.lt x hx).1; omega)
  · by_cases e : i = j
    · subst e
      simp only [upd_same]
      exact hP.heap (fun x hx => (k5 x (by have := hS x hx; omega)).trans (hk x (hP.lt x hx) (svn x hx))) (by have := hb3.size; simp; omega)
    · simp only [upd_other _ _ _ _ e]
      have hp2 := h2.p i (by omega)
      exact hp2.heap (fun x hx => (k5 x (by have := (h.tk i x (by omega) hx).1; omega)).trans (hk x (hp2.lt x hx) (h.tk i x (by omega) hx).2)) (by have := hb3.size; simp; omega)
  · have told : ∀ i x, i < j → T i x → x < w.heap.size := fun i x hi hx => (h.p i hi).lt x hx
    by_cases e : a = j
    · subst e
      simp only [upd_same] at hx
      simp only [upd_other _ _ _ _ (Ne.symm hne)]
      exact fun z => by have := told c x (by omega) z; have := hS x hx; omega
    · simp only [upd_other _ _ _ _ e] at hx
      by_cases e2 : c = j
      · subst e2
        simp only [upd_same]
        exact fun z => by have := told a x (by omega) hx; have := hS x z; omega
      · simp only [upd_other _ _ _ _ e2]
        exact h.dj a c x (by omega) (by omega) hne hx
  · by_cases e : i = j
    · subst e
      simp only [upd_same] at hx
      refine ⟨by have := hS x hx; omega, fun z => ?_⟩
      rcases vnew x z with q | q
      · exact svn x hx q
      · have := hP.lt x hx; omega
    · simp only [upd_other _ _ _ _ e] at hx
      refine ⟨(h.tk i x (by omega) hx).1, fun z => ?_⟩
      rcases vnew x z with q | q
      · exact (h.tk i x (by omega) hx).2 q
      · have := (h2.p i (by omega)).lt x hx; omega
  · have := hb3.size; have := h2.kl; simp; omega
theorem NK.done (h : NK w k j sv T mm s) (h1 : 1 ≤ j) (h7 : j ≤ 7) : ∃ S q cap, (∀ x, S x → k ≤ x) ∧ KBox w S k j q cap T mm (fun _ => ⟨false, List.replicate s zero128, noV⟩) (s : Int) 0 0 false := by
  obtain ⟨q, cap, rfl, hq1, hq2⟩ := h.l.form (by rw [rowV_len]; omega)
  have hl := h.l
  rw [rowV_len] at hl
  have hb := h.b
  rw [rowV_len] at hb
  refine ⟨fun x => x = k ∨ x = q ∨ ∃ i, i < j ∧ T i x, q, cap, ?_, ⟨hb, hl.mono (Nat.zero_le _), h.p, h.dj, fun i x hi hx => ⟨.inr (.inr ⟨i, hi, hx⟩), by have := (h.tk i x hi hx).1; omega, fun e => (h.tk i x hi hx).2 (by rw [e]; rfl)⟩, .inl rfl, .inr (.inl rfl), by omega, ?_, h1, h7⟩⟩
  · rintro x (rfl | rfl | ⟨i, hi, hx⟩)
    · exact Nat.le_refl _
    · omega
    · have := (h.tk i x hi hx).1; omega
  · rintro x (rfl | rfl | ⟨i, hi, hx⟩)
    · exact h.kl
    · exact hq2
    · exact (h.p i hi).lt x hx
end
theorem knew_badn (n s : Int) (w : World) (h : n < 1 ∨ 7 < n) : Calls Try.prog 39 #[.int .i64 n, .int .i64 s] w fun e w' => e = .returned (.tuple #[.pointer none, .int .i64 1]) ∧ w = w' := by
  by_cases h1 : n < 1
  · have t1 : decide (n < 1) = true := decide_eq_true h1
    clear h h1
    go_enter Try.func39, Try.ntmps39
    go_wp2
    go_ret2
    exact ⟨rfl, rfl⟩
  · have t1 : decide (n < 1) = false := decide_eq_false h1
    have t2 : decide (7 < n) = true := decide_eq_true (by omega)
    clear h h1
    go_enter Try.func39, Try.ntmps39
    go_wp2
    go_ret2
    exact ⟨rfl, rfl⟩
set_option maxHeartbeats 2000000 in
theorem knew_bads (n s : Int) (w : World) (h : 1 ≤ n ∧ n ≤ 7) (hs : s < 1 ∨ 256 < s) : Calls Try.prog 39 #[.int .i64 n, .int .i64 s] w fun e w' => e = .returned (.tuple #[.pointer none, .int .i64 1]) ∧ Below w.heap.size w w' := by
  have t1 : decide (n < 1) = false := decide_eq_false (by omega)
  have t2 : decide (7 < n) = false := decide_eq_false (by omega)
  have n0 : 0 < n := by omega
  have cN := fun W => qnew_bad s W hs
  have hb0 : Below w.heap.size w (w.alloc (.cells #[.slice none 0 0, .int .i64 s, .int .i64 0, .int .i64 0, .bool false] 95)) := (Below.refl _ _).alloc (Nat.le_refl _) _
  have hb0H := Lib.hid hb0
  clear hb0 h hs
  go_enter Try.func39, Try.ntmps39
  go_wp2_with (fail)
  go_loopw [7] (fun t wr => t = .int .i64 0 ∧ wr = w.alloc (.cells #[.slice none 0 0, .int .i64 s, .int .i64 0, .int .i64 0, .bool false] 95)) (fun _ _ => 0)
  case atStart => exact ⟨rfl, rfl⟩
  case round =>
    obtain ⟨rfl, rfl⟩ := hrel
    go_wp2_with (fail)
    refine (cN _).mono ?_
    rintro e w' ⟨rfl, rfl⟩
    go_wp2_with (fail)
    go_ret2
    exact ⟨rfl, hb0H.out⟩
set_option maxHeartbeats 2000000 in
theorem kt_new (n s : Nat) (w : World) (h1 : 1 ≤ n) (h7 : n ≤ 7) (hs1 : 1 ≤ s) (hs2 : s ≤ 256) :
    Calls Try.prog 39 #[.int .i64 (n : Int), .int .i64 (s : Int)] w fun e w' => ∃ S k, e = .returned (.tuple #[.pointer (some ⟨k, 0, none⟩), .int .i64 0]) ∧ KA w S w' k n ⟨fun _ => ⟨false, List.replicate s zero128, noV⟩, false, 0, 0⟩ := by
  have t1 : decide ((n : Int) < 1) = false := decide_eq_false (by omega)
  have t2 : decide ((7 : Int) < (n : Int)) = false := decide_eq_false (by omega)
  have cN := fun W => qnew_any s W hs1 hs2
  obtain ⟨k, hk⟩ : ∃ k, w.heap.size = k := ⟨_, rfl⟩
  have hb0 : Below w.heap.size w (w.alloc (.cells #[.slice none 0 0, .int .i64 (s : Int), .int .i64 0, .int .i64 0, .bool false] 95)) := (Below.refl _ _).alloc (Nat.le_refl _) _
  have h0 : NK (w.alloc (.cells #[.slice none 0 0, .int .i64 (s : Int), .int .i64 0, .int .i64 0, .bool false] 95)) k 0 (.slice none 0 0) (fun _ _ => False) (fun _ => 0) s :=
    ⟨by rw [← hk]; exact heap_alloc_new _ _, Own.nil _ _ _, fun i hi => absurd hi (Nat.not_lt_zero _), fun a c x ha => absurd ha (Nat.not_lt_zero _), fun i x hi => absurd hi (Nat.not_lt_zero _), by simp; omega⟩
  have hkH := Lib.hid hk
  go_enter Try.func39, Try.ntmps39
  go_wp2_with (fail)
  go_loopw [7] (fun t wr => ∃ (j : Nat) (sv : Value) (T : Nat → Nat → Prop) (mm : Nat → Nat), j ≤ n ∧ t = .int .i64 (j : Int) ∧ Below w.heap.size w wr ∧ NK wr k j sv T mm s) (fun t _ => n - (intOf t).toNat)
  case atStart => exact ⟨0, _, _, _, by omega, rfl, hb0, h0⟩
  case round =>
    clear hb0 h0
    obtain ⟨j, sv, T, mm, hj, rfl, hb, hB⟩ := hrel
    by_cases hlt : j < n
    · have j1 : (j : Int) < (n : Int) := by omega
      have j2 : (j : Int) + 1 ≤ 8 := by omega
      go_wp2_with (fail)
      refine (cN _).mono ?_
      rintro e w2 ⟨S', m, rfl, hQ⟩
      obtain ⟨q', cap', F', hS2, hP⟩ := hQ.h
      have hb2 := hQ.b
      obtain ⟨_, w3, ⟨pa, pn, pc, rfl⟩, hap, c3, f3, hB3, hb3⟩ := hB.push hb2 (by omega) ⟨q', cap', F', hP⟩ hS2
      have c0 := (hB.after hb2).c0
      have hrel2 := Lib.hid (And.intro (hb.trans ((hb2.mono hb.size).trans (hb3.mono (by rw [hkH.out]; exact Nat.le_refl _)))) hB3)
      clear hB hb hb2 hP hS2 hB3 hb3 hQ
      go_wp2_with (at_builtin; refine wpList_append_run hap _ _ rfl rfl rfl rfl rfl ?_)
      go_roundw
      case rel => exact ⟨j + 1, _, _, _, by omega, by go_num, hrel2.out⟩
      case measure => simp [intOf]; omega
    · obtain rfl : j = n := by omega
      obtain ⟨S, q, cap, hS, hR⟩ := hB.done h1 h7
      have hfin : Hid (KA w S wr k j ⟨fun _ => ⟨false, List.replicate s zero128, noV⟩, false, 0, 0⟩) := Lib.hid ⟨hb, fun x hx => by rw [hkH.out]; exact hS x hx, q, cap, T, mm, (s : Int), 0, hR, .inl ⟨rfl, Int.le_refl _, Int.le_refl _⟩, fun i hi => by simp⟩
      clear hB hb hR hS hlt
      go_wp2_with (fail)
      go_ret2
      exact ⟨S, k, rfl, hfin.out⟩
end Go.Proofs.Ytofhmdbilhdblaa
