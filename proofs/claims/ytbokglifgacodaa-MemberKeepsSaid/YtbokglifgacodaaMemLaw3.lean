/- member: MemberFails. -/
import Derived.Test.YtbokglifgacodaaMemS
import Derived.Test.YtbokglifgacodaaClsTail
import Derived.Test.YtbokglifgacodaaSl4
namespace Go.Proofs.Ytbokglifgacodaa
open Go.RowKit
set_option linter.unusedVariables false
set_option linter.unusedSimpArgs false

theorem pend_noV (n : Nat) : pend n noV = [] := by
  rw [List.eq_nil_iff_forall_not_mem]
  intro x hx
  obtain ⟨i, _, h2, _⟩ := mem_pend.1 hx
  simp [zOf, noV] at h2
theorem sector_q (n : Int) (hn : In64 n) (w : World) : Calls Try.prog 15 #[.int .i64 n] w fun e w' => e = .returned (.string (sec n)) ∧ Below w.heap.size w w' := sector_any n hn w
theorem updV_le {V : Int → List ByteArray} {k : Nat} (h : ∀ z, (V z).length ≤ k) (i : Int) (s : ByteArray) : ∀ z, (updZ V i (V i ++ [s]) z).length ≤ k + 1 := fun z => by
  unfold updZ
  by_cases e : z = i
  · rw [if_pos e, List.length_append]; have := h i; simp; omega
  · rw [if_neg e]; have := h z; omega
theorem flush_len (L : List ByteArray) (V : Int → List ByteArray) : (flush L V).length = L.length := flL_len L V _
set_option maxRecDepth 100000 in
set_option maxHeartbeats 4000000 in
theorem fails_walk (v : Value) (ls : List Int) (a1 a2 : Int) (w : World) (hR : Reads w v (ls.map (.int .i64))) (hF : ∀ n ∈ ls, (Lit.int .i64 n).wf = true)
    (n1 : -9223372036854775808 ≤ a1 ∧ a1 ≤ 9223372036854775807) (n2 : -9223372036854775808 ≤ a2 ∧ a2 ≤ 9223372036854775807) :
    Calls Try.prog 6 #[v, .int .i64 a1, .int .i64 a2] w (Ends w true) := by
  have cN : ∀ W, Calls Try.prog 11 #[.int .i64 8] W fun e w' => ∃ S m g bp cap, e = .returned (.tuple #[.pointer (some ⟨m, 0, none⟩), .int .i64 0]) ∧ MS W S w' m g bp cap false (List.replicate 8 zero128) noV := fun W => ms_new 8 W (by omega) (by omega)
  have hIn : ∀ k, k < ls.length → In64 (ls.getD k 0) := fun k hk => by
    rw [List.getD_eq_getElem?_getD, List.getElem?_eq_getElem hk]; exact hF _ (List.getElem_mem hk)
  have hlenv := fun W => hR.len_run (P := Try.prog) Try.underlying31 3 W
  rw [List.length_map] at hlenv
  have hI2 := in64_iff.2 n2
  have cZ : ∀ W, Calls Try.prog 15 #[.int .i64 0] W fun e w' => e = .returned (.string zero128) ∧ Below W.heap.size W w' := fun W => by
    have := sector_any 0 (in64_iff.2 (by omega)) W
    rw [sec_zero] at this; exact this
  have hRep : (List.replicate 8 zero128).length = 8 := by simp
  clear hF n1 n2
  go_enter Try.func6, Try.ntmps6
  go_wp2_with (fail)
  refine (awake_any _).mono ?_
  rintro e w1 ⟨rfl, b1⟩
  have hR1 := hR.below b1
  go_wp2_with (fail)
  refine (cN _).mono ?_
  rintro e w2 ⟨S0, m, g, bp, cap, rfl, h1⟩
  have hb1H := Lib.hid b1
  clear b1 cN hR
  go_wp2_with (fail)
  go_loopw [10] (fun t wr => ∃ (k : Nat) (S : Nat → Prop) (L : List ByteArray) (V : Int → List ByteArray), k ≤ 50 ∧ k ≤ ls.length ∧ t = .int .i64 (k : Int) ∧ MS w1 S wr m g bp cap false L V ∧ L.length = 8 ∧ ∀ z, (V z).length ≤ k) (fun t _ => 50 - (intOf t).toNat)
  case atStart => exact ⟨0, S0, _, _, by omega, by omega, rfl, h1, hRep, fun z => by simp [noV]⟩
  case round =>
    clear h1
    obtain ⟨k, S, L, V, hk50, hkl, rfl, hB, hL8, hVk⟩ := hrel
    by_cases hlt : k < ls.length ∧ k < 50
    · obtain ⟨hl1, hl2⟩ := hlt
      obtain ⟨va, vcap, rfl, vcell⟩ := hR1.nums
      obtain ⟨cb, co, rfl, clt1, cc1⟩ := vcell k hl1
      have hcI := hIn k hl1
      obtain ⟨c, hc⟩ : ∃ c, ls.getD k 0 = c := ⟨_, rfl⟩
      rw [hc] at hcI cc1
      have cc := (hB.b.cell (p := ⟨cb, co + k, none⟩) clt1).trans cc1
      have clt := Nat.lt_of_lt_of_le clt1 hB.b.size
      obtain ⟨r, hr⟩ : ∃ r, pickC c % 8 = r := ⟨_, rfl⟩
      have hr8 : r < 8 := by rw [← hr]; exact Nat.mod_lt _ (by omega)
      have cp : ∀ W, Calls Try.prog 13 #[.int .i64 c, .int .i64 8] W fun e w' => e = .returned (.int .i64 (r : Int)) ∧ W = w' := fun W => by
        have := pick_any c 8 hcI (by omega) (by omega) W
        rw [hr] at this; exact this
      have cS := fun W => sector_q c hcI W
      have k1 : (k : Int) < (ls.length : Int) := by omega
      have k2 : (k : Int) < 50 := by omega
      clear vcell
      go_wp2_with (fail)
      refine wp_region_cls_tail (Below wr.heap.size wr) 11 (by kernel_rfl) (by kernel_rfl) (Below.refl _ _).drew ?_
      intro Z f hne hD hE
      have r1 : ∀ z, (f z).cell? ⟨cb, co + k, none⟩ = some (.int .i64 c) := fun z => (clsCell hD z _ _ clt).trans cc
      simp only [List.take_succ_cons, List.take_zero, List.drop_succ_cons, List.drop_zero]
      iterate 11 (go_big_quiet_step (first | (go_at_call 13; with_reducible exact toQ _ (cp _)) | (go_at_call 15; with_reducible exact toQB hD hE _ (cS _))))
      refine wpQuiet_nil ?_
      intro _ hw'
      obtain ⟨zq, hw''⟩ := hw'
      subst hw''
      have hB2 := hB.after (hD zq)
      have cc2 := r1 zq
      obtain ⟨wz, hwz⟩ : ∃ wz, f zq = wz := ⟨_, rfl⟩
      rw [hwz] at hB2 cc2 ⊢
      clear r1 hE hD hwz zq hB
      have cW := ms_write hB2 r (by omega) (sec c) (sec_size c) (by have := hVk r; omega)
      clear cc2 cc clt
      go_wp2_with (fail)
      refine cW.mono ?_
      rintro e w4 ⟨S4, rfl, hs4, hB4⟩
      clear cW hB2 hs4
      have hV4 := updV_le hVk r (sec c)
      generalize updZ V (r : Int) (V (r : Int) ++ [sec c]) = V4 at *
      have cc := (hB4.b.cell (p := ⟨cb, co + k, none⟩) clt1).trans cc1
      cases hq5 : (c.tmod 5 == 0) with
      | false =>
        go_wp2_with (fail)
        go_roundw
        case rel => exact ⟨k + 1, S4, L, V4, by omega, by omega, by go_num, hB4, hL8, hV4⟩
        case measure => simp [intOf]; omega
      | true =>
        have cF := ms_flush hB4 (fun z => by have := hV4 z; omega)
        go_wp2_with (fail)
        refine cF.mono ?_
        rintro e w5 ⟨rfl, hs5, hB5⟩
        clear cF hB4 hs5
        go_wp2_with (fail)
        go_roundw
        case rel => exact ⟨k + 1, S4, _, noV, by omega, by omega, by go_num, hB5, by rw [flush_len]; exact hL8, fun z => by simp [noV]⟩
        case measure => simp [intOf]; omega
    · have hcd : ((k : Int) < (ls.length : Int) ∧ ¬ ((k : Int) < 50)) ∨ ¬ ((k : Int) < (ls.length : Int)) := by omega
      clear hIn hlt hR1
      have hL8i : (L.length : Int) = 8 := by omega
      rcases hcd with ⟨kx, k50⟩ | kx
      · skip
        go_wp2_with (fail)
        refine (ms_fail hB).mono ?_
        rintro e w5 ⟨rfl, hs5, hB5⟩
        rw [hL8] at hB5
        clear hs5 hB
        go_wp2_with (fail)
        refine (ms_readd hB5 a1).mono ?_
        rintro e w' ⟨rfl, rfl⟩
        go_wp2_with (fail)
        refine (sector_q a2 hI2 _).mono ?_
        rintro e w6 ⟨rfl, b6⟩
        have hB6 := hB5.after b6
        clear hB5 b6
        go_wp2_with (fail)
        refine (ms_writed hB6 a1 (sec a2)).mono ?_
        rintro e w' ⟨rfl, rfl⟩
        go_wp2_with (fail)
        refine (ms_flushd hB6).mono ?_
        rintro e w' ⟨rfl, rfl⟩
        go_wp2_with (fail)
        refine (ms_alive hB6).mono ?_
        rintro e w' ⟨rfl, rfl⟩
        go_wp2_with (fail)
        refine (ms_pend hB6).mono ?_
        rintro e w7 ⟨v7, rfl, b7, o7⟩
        rw [pend_noV] at o7
        have hB7 := hB6.after b7
        have hl7 := fun W => o7.reads.len_run (P := Try.prog) Try.underlying31 3 W
        clear hB6 b7 o7
        go_wp2_with (fail)
        refine (ms_imaged hB7).mono ?_
        rintro e w' ⟨rfl, rfl⟩
        go_wp2_with (fail)
        refine (ms_rotn hB7 0 0 1 (in64_iff.2 (by omega)) rfl).mono ?_
        rintro e w' ⟨rfl, rfl⟩
        go_wp2_with (fail)
        refine (ms_blank hB7).mono ?_
        rintro e w8 ⟨rfl, hs8, hB8⟩
        rw [hRep] at hB8
        clear hB7 hs8 hl7
        go_wp2_with (fail)
        refine (ms_image hB8).mono ?_
        rintro e w9 ⟨x, rfl, b9, o9⟩
        rw [hRep] at o9 ⊢
        have hB9 := hB8.after b9
        clear hB8 b9
        go_wp2_with (fail)
        go_loopw [14] (fun t wq => ∃ i : Nat, i ≤ 8 ∧ t = .int .i64 (i : Int) ∧ Below w9.heap.size w9 wq) (fun t _ => 8 - (intOf t).toNat)
        case atStart => exact ⟨0, by omega, rfl, Below.refl _ _⟩
        case round =>
          obtain ⟨i, hi, rfl, hbq⟩ := hrel
          have hBq := hB9.after hbq
          have oq := o9.after hbq
          by_cases hi8 : i < 8
          · have i1 : (i : Int) < 8 := by omega
            have cc := oq.cell (i := i) (by simp; exact hi8)
            have hcl : ((List.replicate 8 zero128).map Value.string).getD i .nilFunc = .string zero128 := by
              rw [List.getD_eq_getElem?_getD, List.getElem?_map, List.getElem?_replicate, if_pos hi8]; rfl
            rw [hcl] at cc
            have hxl := oq.lt.2
            go_wp2_with (fail)
            refine wp_region_cls (Below wr.heap.size wr) (by kernel_rfl) (by kernel_rfl) (Below.refl _ _).drew ?_
            intro Z f hne hD hE
            have r1 : ∀ z, (f z).cell? ⟨x, i, none⟩ = some (.string zero128) := fun z => (clsCell hD z _ _ hxl).trans cc
            iterate 6 (go_big_quiet_step (first | (go_at_call 15; with_reducible exact toQB hD hE _ (cZ _))))
            refine wpQuiet_nil ?_
            intro _ hw'
            obtain ⟨zq, hw''⟩ := hw'
            subst hw''
            have hbz := hbq.trans ((hD zq).mono hbq.size)
            generalize f zq = wz at *
            clear r1 cc oq hBq
            go_wp2_with (fail)
            go_roundw
            case rel => exact ⟨i + 1, by omega, by go_num, hbz⟩
            case measure => simp [intOf]; omega
          · obtain rfl : i = 8 := by omega
            clear hB9 o9 oq hi hi8
            go_wp2_with (fail)
            refine (ms_alive hBq).mono ?_
            rintro e w' ⟨rfl, rfl⟩
            go_wp2_with (fail)
            refine (ms_pend hBq).mono ?_
            rintro e wp ⟨vp, rfl, bp2, op⟩
            rw [pend_noV] at op
            have hlp := fun W => op.reads.len_run (P := Try.prog) Try.underlying31 3 W
            have hfin := Lib.hid (hb1H.out.trans ((hBq.after bp2).b.mono hb1H.out.size))
            clear hBq bp2 op
            go_wp2_with (fail)
            go_ret
            exact ⟨rfl, hfin.out⟩
      · skip
        go_wp2_with (fail)
        refine (ms_fail hB).mono ?_
        rintro e w5 ⟨rfl, hs5, hB5⟩
        rw [hL8] at hB5
        clear hs5 hB
        go_wp2_with (fail)
        refine (ms_readd hB5 a1).mono ?_
        rintro e w' ⟨rfl, rfl⟩
        go_wp2_with (fail)
        refine (sector_q a2 hI2 _).mono ?_
        rintro e w6 ⟨rfl, b6⟩
        have hB6 := hB5.after b6
        clear hB5 b6
        go_wp2_with (fail)
        refine (ms_writed hB6 a1 (sec a2)).mono ?_
        rintro e w' ⟨rfl, rfl⟩
        go_wp2_with (fail)
        refine (ms_flushd hB6).mono ?_
        rintro e w' ⟨rfl, rfl⟩
        go_wp2_with (fail)
        refine (ms_alive hB6).mono ?_
        rintro e w' ⟨rfl, rfl⟩
        go_wp2_with (fail)
        refine (ms_pend hB6).mono ?_
        rintro e w7 ⟨v7, rfl, b7, o7⟩
        rw [pend_noV] at o7
        have hB7 := hB6.after b7
        have hl7 := fun W => o7.reads.len_run (P := Try.prog) Try.underlying31 3 W
        clear hB6 b7 o7
        go_wp2_with (fail)
        refine (ms_imaged hB7).mono ?_
        rintro e w' ⟨rfl, rfl⟩
        go_wp2_with (fail)
        refine (ms_rotn hB7 0 0 1 (in64_iff.2 (by omega)) rfl).mono ?_
        rintro e w' ⟨rfl, rfl⟩
        go_wp2_with (fail)
        refine (ms_blank hB7).mono ?_
        rintro e w8 ⟨rfl, hs8, hB8⟩
        rw [hRep] at hB8
        clear hB7 hs8 hl7
        go_wp2_with (fail)
        refine (ms_image hB8).mono ?_
        rintro e w9 ⟨x, rfl, b9, o9⟩
        rw [hRep] at o9 ⊢
        have hB9 := hB8.after b9
        clear hB8 b9
        go_wp2_with (fail)
        go_loopw [14] (fun t wq => ∃ i : Nat, i ≤ 8 ∧ t = .int .i64 (i : Int) ∧ Below w9.heap.size w9 wq) (fun t _ => 8 - (intOf t).toNat)
        case atStart => exact ⟨0, by omega, rfl, Below.refl _ _⟩
        case round =>
          obtain ⟨i, hi, rfl, hbq⟩ := hrel
          have hBq := hB9.after hbq
          have oq := o9.after hbq
          by_cases hi8 : i < 8
          · have i1 : (i : Int) < 8 := by omega
            have cc := oq.cell (i := i) (by simp; exact hi8)
            have hcl : ((List.replicate 8 zero128).map Value.string).getD i .nilFunc = .string zero128 := by
              rw [List.getD_eq_getElem?_getD, List.getElem?_map, List.getElem?_replicate, if_pos hi8]; rfl
            rw [hcl] at cc
            have hxl := oq.lt.2
            go_wp2_with (fail)
            refine wp_region_cls (Below wr.heap.size wr) (by kernel_rfl) (by kernel_rfl) (Below.refl _ _).drew ?_
            intro Z f hne hD hE
            have r1 : ∀ z, (f z).cell? ⟨x, i, none⟩ = some (.string zero128) := fun z => (clsCell hD z _ _ hxl).trans cc
            iterate 6 (go_big_quiet_step (first | (go_at_call 15; with_reducible exact toQB hD hE _ (cZ _))))
            refine wpQuiet_nil ?_
            intro _ hw'
            obtain ⟨zq, hw''⟩ := hw'
            subst hw''
            have hbz := hbq.trans ((hD zq).mono hbq.size)
            generalize f zq = wz at *
            clear r1 cc oq hBq
            go_wp2_with (fail)
            go_roundw
            case rel => exact ⟨i + 1, by omega, by go_num, hbz⟩
            case measure => simp [intOf]; omega
          · obtain rfl : i = 8 := by omega
            clear hB9 o9 oq hi hi8
            go_wp2_with (fail)
            refine (ms_alive hBq).mono ?_
            rintro e w' ⟨rfl, rfl⟩
            go_wp2_with (fail)
            refine (ms_pend hBq).mono ?_
            rintro e wp ⟨vp, rfl, bp2, op⟩
            rw [pend_noV] at op
            have hlp := fun W => op.reads.len_run (P := Try.prog) Try.underlying31 3 W
            have hfin := Lib.hid (hb1H.out.trans ((hBq.after bp2).b.mono hb1H.out.size))
            clear hBq bp2 op
            go_wp2_with (fail)
            go_ret
            exact ⟨rfl, hfin.out⟩
end Go.Proofs.Ytbokglifgacodaa

