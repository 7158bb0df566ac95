import Derived.Test.YtjgafpkpoppcbaaGreatDoorStrQ1
import Derived.Test.YtjgafpkpoppcbaaGreatDoorLstr
set_option linter.unusedVariables false
set_option linter.unusedSimpArgs false
namespace Go.Proofs.YtjgafpkpoppcbaaGreatDoor
open Go.RowKit
set_option maxRecDepth 100000
section
variable {w w1 : World} {S : Nat → Prop} {k n : Nat} {R : Rk}
set_option maxHeartbeats 4000000 in
theorem kfits_any (h : KA w S w1 k n R) (id K M B : Int) : Calls Tryz.prog 89 #[.pointer (some ⟨k, 0, none⟩), .int .i64 id, .agg #[.int .i64 K, .int .i64 M, .int .i64 B]] w1 fun e w' => e = .returned (.bool (sfitsB n R id K M B)) ∧ Below w1.heap.size w1 w' := by
  obtain ⟨wb, hwb⟩ : ∃ wb, wb = w1.alloc (.cells #[.int .i64 K, .int .i64 M, .int .i64 B] 23) := ⟨_, rfl⟩
  have hb0 : Below w1.heap.size w1 wb := by rw [hwb]; exact (Below.refl _ _).alloc (Nat.le_refl _) _
  have hA : SGeoAt wb w1.heap.size K M B := by rw [hwb]; exact SGeoAt.new w1 K M B
  have c1 : ∀ W, Calls Tryz.prog 65 #[.agg #[.int .i64 K, .int .i64 M, .int .i64 B]] W fun e w' => e = .returned (.bool (gR K M B)) ∧ Below W.heap.size W w' := fun W => rright_any K M B W
  have c2 : ∀ W, Below w1.heap.size w1 W → Calls Tryz.prog 53 #[.pointer (some ⟨k, 0, none⟩)] W fun e w' => e = .returned (.int .i64 (n : Int)) ∧ Below W.heap.size W w' := fun W hW => (kt_slots (h.after hW)).mono fun e w' he => ⟨he.1, by rw [← he.2]; exact Below.refl _ _⟩
  have c3 : ∀ W, Calls Tryz.prog 38 #[.agg #[.int .i64 K, .int .i64 M, .int .i64 B]] W fun e w' => e = .returned (.int .i64 (gSlots K M B)) ∧ Below W.heap.size W w' := fun W => rslots_any K M B W
  have c4 : ∀ W, Below w1.heap.size w1 W → Calls Tryz.prog 128 #[.pointer (some ⟨k, 0, none⟩)] W fun e w' => e = .returned (.int .i64 (szK R : Int)) ∧ Below W.heap.size W w' := fun W hW => (kt_sectors (h.after hW)).mono fun e w' he => ⟨he.1, by rw [← he.2]; exact Below.refl _ _⟩
  have c5 : ∀ W, Calls Tryz.prog 39 #[.agg #[.int .i64 K, .int .i64 M, .int .i64 B]] W fun e w' => e = .returned (.int .i64 (gSectors K M B)) ∧ Below W.heap.size W w' := fun W => rsectors_any K M B W
  have he : Hid (sfitsB n R id K M B = (decide (1 ≤ id) && (decide (id ≤ 65535) && (gR K M B && (((n : Int) == gSlots K M B) && decide (gSectors K M B ≤ (szK R : Int))))))) := Lib.hid rfl
  generalize sfitsB n R id K M B = X at *
  generalize gSlots K M B = s at *
  generalize gSectors K M B = c at *
  generalize (szK R : Int) = z at *
  generalize gR K M B = b3 at *
  obtain ⟨b1, t1⟩ : ∃ b, decide (1 ≤ id) = b := ⟨_, rfl⟩
  obtain ⟨b2, t2⟩ : ∃ b, decide (id ≤ 65535) = b := ⟨_, rfl⟩
  obtain ⟨b4, t4⟩ : ∃ b, ((n : Int) == s) = b := ⟨_, rfl⟩
  obtain ⟨b5, t5⟩ : ∃ b, decide (c ≤ z) = b := ⟨_, rfl⟩
  rw [t1, t2, t4, t5] at he
  clear h
  cases b3 with
  | false =>
    go_enter Tryz.func89, Tryz.ntmps89
    obtain ⟨e0, e1, e2, elt⟩ := hA
    go_wp2_with (fail)
    rw [show w1.alloc (.cells #[.int .i64 K, .int .i64 M, .int .i64 B] 23) = wb from hwb.symm]
    clear hwb
    refine (c1 wb).mono ?_
    rintro e w2 ⟨rfl, b2⟩
    have hb2 := hb0.trans (b2.mono hb0.size)
    have g0 : w2.cell? ⟨w1.heap.size, 0, none⟩ = some (.int .i64 K) := (b2.cell (p := ⟨w1.heap.size, 0, none⟩) elt).trans e0
    have g1 : w2.cell? ⟨w1.heap.size, 1, none⟩ = some (.int .i64 M) := (b2.cell (p := ⟨w1.heap.size, 1, none⟩) elt).trans e1
    have g2 : w2.cell? ⟨w1.heap.size, 2, none⟩ = some (.int .i64 B) := (b2.cell (p := ⟨w1.heap.size, 2, none⟩) elt).trans e2
    have gl : w1.heap.size < w2.heap.size := Nat.lt_of_lt_of_le elt b2.size
    clear e0 e1 e2 elt b2
    go_upto_region 2 with (fail)
    refine wp_region_cls (Below w2.heap.size w2) (by kernel_rfl) (by kernel_rfl) (Below.refl _ _).drew ?_
    intro Z f hne hD hE
    have hDw : ∀ z, Below w1.heap.size w1 (f z) := fun z => hb2.trans ((hD z).mono hb2.size)
    have d0 : ∀ z, (f z).cell? ⟨w1.heap.size, 0, none⟩ = some (.int .i64 K) := fun z => ((hD z).cell (p := ⟨w1.heap.size, 0, none⟩) gl).trans g0
    have d1 : ∀ z, (f z).cell? ⟨w1.heap.size, 1, none⟩ = some (.int .i64 M) := fun z => ((hD z).cell (p := ⟨w1.heap.size, 1, none⟩) gl).trans g1
    have d2 : ∀ z, (f z).cell? ⟨w1.heap.size, 2, none⟩ = some (.int .i64 B) := fun z => ((hD z).cell (p := ⟨w1.heap.size, 2, none⟩) gl).trans g2
    clear g0 g1 g2 gl
    iterate 28 (go_big_quiet_step (first | (go_at_call 53; with_reducible exact toQB hD hE _ (c2 _ (hDw _))) | (go_at_call 38; with_reducible exact toQB hD hE _ (c3 _)) | (go_at_call 128; with_reducible exact toQB hD hE _ (c4 _ (hDw _))) | (go_at_call 39; with_reducible exact toQB hD hE _ (c5 _))))
    refine wpQuiet_nil ?_
    intro _ hw'
    obtain ⟨zq, hw''⟩ := hw'
    subst hw''
    have hB3 := hDw zq
    clear d0 d1 d2
    go_wp2_with (fail)
    go_ret
    exact ⟨by rw [he.out]; first | rfl | (simp), hB3⟩
  | true =>
    cases b1 with
    | false =>
      go_enter Tryz.func89, Tryz.ntmps89
      obtain ⟨e0, e1, e2, elt⟩ := hA
      go_wp2_with (fail)
      rw [show w1.alloc (.cells #[.int .i64 K, .int .i64 M, .int .i64 B] 23) = wb from hwb.symm]
      clear hwb
      refine (c1 wb).mono ?_
      rintro e w2 ⟨rfl, b2⟩
      have hb2 := hb0.trans (b2.mono hb0.size)
      have g0 : w2.cell? ⟨w1.heap.size, 0, none⟩ = some (.int .i64 K) := (b2.cell (p := ⟨w1.heap.size, 0, none⟩) elt).trans e0
      have g1 : w2.cell? ⟨w1.heap.size, 1, none⟩ = some (.int .i64 M) := (b2.cell (p := ⟨w1.heap.size, 1, none⟩) elt).trans e1
      have g2 : w2.cell? ⟨w1.heap.size, 2, none⟩ = some (.int .i64 B) := (b2.cell (p := ⟨w1.heap.size, 2, none⟩) elt).trans e2
      have gl : w1.heap.size < w2.heap.size := Nat.lt_of_lt_of_le elt b2.size
      clear e0 e1 e2 elt b2
      go_upto_region 2 with (fail)
      refine wp_region_cls (Below w2.heap.size w2) (by kernel_rfl) (by kernel_rfl) (Below.refl _ _).drew ?_
      intro Z f hne hD hE
      have hDw : ∀ z, Below w1.heap.size w1 (f z) := fun z => hb2.trans ((hD z).mono hb2.size)
      have d0 : ∀ z, (f z).cell? ⟨w1.heap.size, 0, none⟩ = some (.int .i64 K) := fun z => ((hD z).cell (p := ⟨w1.heap.size, 0, none⟩) gl).trans g0
      have d1 : ∀ z, (f z).cell? ⟨w1.heap.size, 1, none⟩ = some (.int .i64 M) := fun z => ((hD z).cell (p := ⟨w1.heap.size, 1, none⟩) gl).trans g1
      have d2 : ∀ z, (f z).cell? ⟨w1.heap.size, 2, none⟩ = some (.int .i64 B) := fun z => ((hD z).cell (p := ⟨w1.heap.size, 2, none⟩) gl).trans g2
      clear g0 g1 g2 gl
      iterate 28 (go_big_quiet_step (first | (go_at_call 53; with_reducible exact toQB hD hE _ (c2 _ (hDw _))) | (go_at_call 38; with_reducible exact toQB hD hE _ (c3 _)) | (go_at_call 128; with_reducible exact toQB hD hE _ (c4 _ (hDw _))) | (go_at_call 39; with_reducible exact toQB hD hE _ (c5 _))))
      refine wpQuiet_nil ?_
      intro _ hw'
      obtain ⟨zq, hw''⟩ := hw'
      subst hw''
      have hB3 := hDw zq
      clear d0 d1 d2
      go_wp2_with (fail)
      go_ret
      exact ⟨by rw [he.out]; first | rfl | (simp), hB3⟩
    | true =>
      cases b2 with
      | false =>
        go_enter Tryz.func89, Tryz.ntmps89
        obtain ⟨e0, e1, e2, elt⟩ := hA
        go_wp2_with (fail)
        rw [show w1.alloc (.cells #[.int .i64 K, .int .i64 M, .int .i64 B] 23) = wb from hwb.symm]
        clear hwb
        refine (c1 wb).mono ?_
        rintro e w2 ⟨rfl, b2⟩
        have hb2 := hb0.trans (b2.mono hb0.size)
        have g0 : w2.cell? ⟨w1.heap.size, 0, none⟩ = some (.int .i64 K) := (b2.cell (p := ⟨w1.heap.size, 0, none⟩) elt).trans e0
        have g1 : w2.cell? ⟨w1.heap.size, 1, none⟩ = some (.int .i64 M) := (b2.cell (p := ⟨w1.heap.size, 1, none⟩) elt).trans e1
        have g2 : w2.cell? ⟨w1.heap.size, 2, none⟩ = some (.int .i64 B) := (b2.cell (p := ⟨w1.heap.size, 2, none⟩) elt).trans e2
        have gl : w1.heap.size < w2.heap.size := Nat.lt_of_lt_of_le elt b2.size
        clear e0 e1 e2 elt b2
        go_upto_region 2 with (fail)
        refine wp_region_cls (Below w2.heap.size w2) (by kernel_rfl) (by kernel_rfl) (Below.refl _ _).drew ?_
        intro Z f hne hD hE
        have hDw : ∀ z, Below w1.heap.size w1 (f z) := fun z => hb2.trans ((hD z).mono hb2.size)
        have d0 : ∀ z, (f z).cell? ⟨w1.heap.size, 0, none⟩ = some (.int .i64 K) := fun z => ((hD z).cell (p := ⟨w1.heap.size, 0, none⟩) gl).trans g0
        have d1 : ∀ z, (f z).cell? ⟨w1.heap.size, 1, none⟩ = some (.int .i64 M) := fun z => ((hD z).cell (p := ⟨w1.heap.size, 1, none⟩) gl).trans g1
        have d2 : ∀ z, (f z).cell? ⟨w1.heap.size, 2, none⟩ = some (.int .i64 B) := fun z => ((hD z).cell (p := ⟨w1.heap.size, 2, none⟩) gl).trans g2
        clear g0 g1 g2 gl
        iterate 28 (go_big_quiet_step (first | (go_at_call 53; with_reducible exact toQB hD hE _ (c2 _ (hDw _))) | (go_at_call 38; with_reducible exact toQB hD hE _ (c3 _)) | (go_at_call 128; with_reducible exact toQB hD hE _ (c4 _ (hDw _))) | (go_at_call 39; with_reducible exact toQB hD hE _ (c5 _))))
        refine wpQuiet_nil ?_
        intro _ hw'
        obtain ⟨zq, hw''⟩ := hw'
        subst hw''
        have hB3 := hDw zq
        clear d0 d1 d2
        go_wp2_with (fail)
        go_ret
        exact ⟨by rw [he.out]; first | rfl | (simp), hB3⟩
      | true =>
        cases b4 with
        | false =>
          go_enter Tryz.func89, Tryz.ntmps89
          obtain ⟨e0, e1, e2, elt⟩ := hA
          go_wp2_with (fail)
          rw [show w1.alloc (.cells #[.int .i64 K, .int .i64 M, .int .i64 B] 23) = wb from hwb.symm]
          clear hwb
          refine (c1 wb).mono ?_
          rintro e w2 ⟨rfl, b2⟩
          have hb2 := hb0.trans (b2.mono hb0.size)
          have g0 : w2.cell? ⟨w1.heap.size, 0, none⟩ = some (.int .i64 K) := (b2.cell (p := ⟨w1.heap.size, 0, none⟩) elt).trans e0
          have g1 : w2.cell? ⟨w1.heap.size, 1, none⟩ = some (.int .i64 M) := (b2.cell (p := ⟨w1.heap.size, 1, none⟩) elt).trans e1
          have g2 : w2.cell? ⟨w1.heap.size, 2, none⟩ = some (.int .i64 B) := (b2.cell (p := ⟨w1.heap.size, 2, none⟩) elt).trans e2
          have gl : w1.heap.size < w2.heap.size := Nat.lt_of_lt_of_le elt b2.size
          clear e0 e1 e2 elt b2
          go_upto_region 2 with (fail)
          refine wp_region_cls (Below w2.heap.size w2) (by kernel_rfl) (by kernel_rfl) (Below.refl _ _).drew ?_
          intro Z f hne hD hE
          have hDw : ∀ z, Below w1.heap.size w1 (f z) := fun z => hb2.trans ((hD z).mono hb2.size)
          have d0 : ∀ z, (f z).cell? ⟨w1.heap.size, 0, none⟩ = some (.int .i64 K) := fun z => ((hD z).cell (p := ⟨w1.heap.size, 0, none⟩) gl).trans g0
          have d1 : ∀ z, (f z).cell? ⟨w1.heap.size, 1, none⟩ = some (.int .i64 M) := fun z => ((hD z).cell (p := ⟨w1.heap.size, 1, none⟩) gl).trans g1
          have d2 : ∀ z, (f z).cell? ⟨w1.heap.size, 2, none⟩ = some (.int .i64 B) := fun z => ((hD z).cell (p := ⟨w1.heap.size, 2, none⟩) gl).trans g2
          clear g0 g1 g2 gl
          iterate 28 (go_big_quiet_step (first | (go_at_call 53; with_reducible exact toQB hD hE _ (c2 _ (hDw _))) | (go_at_call 38; with_reducible exact toQB hD hE _ (c3 _)) | (go_at_call 128; with_reducible exact toQB hD hE _ (c4 _ (hDw _))) | (go_at_call 39; with_reducible exact toQB hD hE _ (c5 _))))
          refine wpQuiet_nil ?_
          intro _ hw'
          obtain ⟨zq, hw''⟩ := hw'
          subst hw''
          have hB3 := hDw zq
          clear d0 d1 d2
          go_wp2_with (fail)
          go_ret
          exact ⟨by rw [he.out]; first | rfl | (simp), hB3⟩
        | true =>
          cases b5 with
          | false =>
            go_enter Tryz.func89, Tryz.ntmps89
            obtain ⟨e0, e1, e2, elt⟩ := hA
            go_wp2_with (fail)
            rw [show w1.alloc (.cells #[.int .i64 K, .int .i64 M, .int .i64 B] 23) = wb from hwb.symm]
            clear hwb
            refine (c1 wb).mono ?_
            rintro e w2 ⟨rfl, b2⟩
            have hb2 := hb0.trans (b2.mono hb0.size)
            have g0 : w2.cell? ⟨w1.heap.size, 0, none⟩ = some (.int .i64 K) := (b2.cell (p := ⟨w1.heap.size, 0, none⟩) elt).trans e0
            have g1 : w2.cell? ⟨w1.heap.size, 1, none⟩ = some (.int .i64 M) := (b2.cell (p := ⟨w1.heap.size, 1, none⟩) elt).trans e1
            have g2 : w2.cell? ⟨w1.heap.size, 2, none⟩ = some (.int .i64 B) := (b2.cell (p := ⟨w1.heap.size, 2, none⟩) elt).trans e2
            have gl : w1.heap.size < w2.heap.size := Nat.lt_of_lt_of_le elt b2.size
            clear e0 e1 e2 elt b2
            go_upto_region 2 with (fail)
            refine wp_region_cls (Below w2.heap.size w2) (by kernel_rfl) (by kernel_rfl) (Below.refl _ _).drew ?_
            intro Z f hne hD hE
            have hDw : ∀ z, Below w1.heap.size w1 (f z) := fun z => hb2.trans ((hD z).mono hb2.size)
            have d0 : ∀ z, (f z).cell? ⟨w1.heap.size, 0, none⟩ = some (.int .i64 K) := fun z => ((hD z).cell (p := ⟨w1.heap.size, 0, none⟩) gl).trans g0
            have d1 : ∀ z, (f z).cell? ⟨w1.heap.size, 1, none⟩ = some (.int .i64 M) := fun z => ((hD z).cell (p := ⟨w1.heap.size, 1, none⟩) gl).trans g1
            have d2 : ∀ z, (f z).cell? ⟨w1.heap.size, 2, none⟩ = some (.int .i64 B) := fun z => ((hD z).cell (p := ⟨w1.heap.size, 2, none⟩) gl).trans g2
            clear g0 g1 g2 gl
            iterate 28 (go_big_quiet_step (first | (go_at_call 53; with_reducible exact toQB hD hE _ (c2 _ (hDw _))) | (go_at_call 38; with_reducible exact toQB hD hE _ (c3 _)) | (go_at_call 128; with_reducible exact toQB hD hE _ (c4 _ (hDw _))) | (go_at_call 39; with_reducible exact toQB hD hE _ (c5 _))))
            refine wpQuiet_nil ?_
            intro _ hw'
            obtain ⟨zq, hw''⟩ := hw'
            subst hw''
            have hB3 := hDw zq
            clear d0 d1 d2
            go_wp2_with (fail)
            go_ret
            exact ⟨by rw [he.out]; first | rfl | (simp), hB3⟩
          | true =>
            go_enter Tryz.func89, Tryz.ntmps89
            obtain ⟨e0, e1, e2, elt⟩ := hA
            go_wp2_with (fail)
            rw [show w1.alloc (.cells #[.int .i64 K, .int .i64 M, .int .i64 B] 23) = wb from hwb.symm]
            clear hwb
            refine (c1 wb).mono ?_
            rintro e w2 ⟨rfl, b2⟩
            have hb2 := hb0.trans (b2.mono hb0.size)
            have g0 : w2.cell? ⟨w1.heap.size, 0, none⟩ = some (.int .i64 K) := (b2.cell (p := ⟨w1.heap.size, 0, none⟩) elt).trans e0
            have g1 : w2.cell? ⟨w1.heap.size, 1, none⟩ = some (.int .i64 M) := (b2.cell (p := ⟨w1.heap.size, 1, none⟩) elt).trans e1
            have g2 : w2.cell? ⟨w1.heap.size, 2, none⟩ = some (.int .i64 B) := (b2.cell (p := ⟨w1.heap.size, 2, none⟩) elt).trans e2
            have gl : w1.heap.size < w2.heap.size := Nat.lt_of_lt_of_le elt b2.size
            clear e0 e1 e2 elt b2
            go_upto_region 2 with (fail)
            refine wp_region_cls (Below w2.heap.size w2) (by kernel_rfl) (by kernel_rfl) (Below.refl _ _).drew ?_
            intro Z f hne hD hE
            have hDw : ∀ z, Below w1.heap.size w1 (f z) := fun z => hb2.trans ((hD z).mono hb2.size)
            have d0 : ∀ z, (f z).cell? ⟨w1.heap.size, 0, none⟩ = some (.int .i64 K) := fun z => ((hD z).cell (p := ⟨w1.heap.size, 0, none⟩) gl).trans g0
            have d1 : ∀ z, (f z).cell? ⟨w1.heap.size, 1, none⟩ = some (.int .i64 M) := fun z => ((hD z).cell (p := ⟨w1.heap.size, 1, none⟩) gl).trans g1
            have d2 : ∀ z, (f z).cell? ⟨w1.heap.size, 2, none⟩ = some (.int .i64 B) := fun z => ((hD z).cell (p := ⟨w1.heap.size, 2, none⟩) gl).trans g2
            clear g0 g1 g2 gl
            iterate 28 (go_big_quiet_step (first | (go_at_call 53; with_reducible exact toQB hD hE _ (c2 _ (hDw _))) | (go_at_call 38; with_reducible exact toQB hD hE _ (c3 _)) | (go_at_call 128; with_reducible exact toQB hD hE _ (c4 _ (hDw _))) | (go_at_call 39; with_reducible exact toQB hD hE _ (c5 _))))
            refine wpQuiet_nil ?_
            intro _ hw'
            obtain ⟨zq, hw''⟩ := hw'
            subst hw''
            have hB3 := hDw zq
            clear d0 d1 d2
            go_wp2_with (fail)
            go_ret
            exact ⟨by rw [he.out]; first | rfl | (simp), hB3⟩
set_option maxHeartbeats 4000000 in
theorem named_any (v : Value) (l : List Int) (w : World) (hv : Reads w v (l.map (.int .i64))) (hl : l.length ≤ 1000000) (n : Int) :
    Calls Tryz.prog 52 #[v, .int .i64 n] w fun e w' => e = .returned (.bool (srightB l n)) ∧ Below w.heap.size w w' := by
  obtain ⟨va, vc, rfl, hit⟩ := Reads.items hv
  have HIT : Hid (∀ W, Below w.heap.size w W → ∀ i (hi : i < l.length), ∃ cb co, va = some ⟨cb, co, none⟩ ∧ W.cell? ⟨cb, co + i, none⟩ = some (.int .i64 l[i])) := Lib.hid fun W hW i hi => by
    obtain ⟨cb, co, e1, e2, e3⟩ := hit i hi
    exact ⟨cb, co, e1, (hW.cell (p := ⟨cb, co + i, none⟩) e2).trans e3⟩
  clear hit hv
  go_enter Tryz.func52, Tryz.ntmps52
  go_wp2_with (fail)
  go_loopw [4, 5, 6] (fun _ t _ wr => ∃ i : Nat, i ≤ l.length ∧ t = .int .i64 (i : Int) ∧ Hid ((∀ j (hj : j < l.length), j < i → 0 ≤ l[j] ∧ l[j] < n) ∧ (l.take i).Nodup) ∧ Below w.heap.size w wr) (fun _ t _ _ => l.length - (RowKit.intOf t).toNat)
  case atStart => exact ⟨0, Nat.zero_le _, rfl, Lib.hid ⟨fun j _ hj => absurd hj (Nat.not_lt_zero _), by simp⟩, Below.refl _ _⟩
  case round =>
    obtain ⟨i, hi, rfl, hb, hB⟩ := hrel
    rename World => wr
    by_cases hlt : i < l.length
    · have y1 : (i : Int) < (l.length : Int) := by omega
      obtain ⟨cb, co, rfl, hc⟩ := HIT.out wr hB i hlt
      have hno : Hid (¬ (0 ≤ l[i] ∧ l[i] < n) ∨ l[i] ∈ l.take i → srightB l n = false) := Lib.hid (srightB_no hlt)
      have hnext : Hid ((0 ≤ l[i] ∧ l[i] < n) → l[i] ∉ l.take i → (∀ j (hj : j < l.length), j < i + 1 → 0 ≤ l[j] ∧ l[j] < n) ∧ (l.take (i + 1)).Nodup) := Lib.hid fun h1 h2 => by
        refine ⟨fun j hj hj2 => ?_, ?_⟩
        · rcases Nat.lt_succ_iff_lt_or_eq.1 hj2 with h3 | rfl
          · exact hb.out.1 j hj h3
          · exact h1
        · rw [List.take_succ_eq_append_getElem hlt]
          exact List.nodup_append.2 ⟨hb.out.2, by simp, fun a ha b hb2 e => h2 (by rw [List.mem_singleton] at hb2; rw [← hb2, ← e]; exact ha)⟩
      have hyes : Hid (∀ j (hj : j < l.length), j < i → l[j] = l[i] → l[i] ∈ l.take i) := Lib.hid fun j hj hji e => by
        rw [← e]; exact List.mem_take_iff_getElem.2 ⟨j, by omega, rfl⟩
      have hall : Hid ((∀ j (hj : j < l.length), j < i → l[j] ≠ l[i]) → l[i] ∉ l.take i) := Lib.hid fun h hm => by
        obtain ⟨j, hj, e⟩ := List.mem_take_iff_getElem.1 hm
        exact h j (by omega) (by omega) e
      obtain ⟨y, hy⟩ : ∃ y, l[i] = y := ⟨_, rfl⟩
      rw [hy] at hno hnext hc hyes hall
      have HC : Hid (∀ W, Below wr.heap.size wr W → W.cell? ⟨cb, co + i, none⟩ = some (.int .i64 y)) := Lib.hid fun W hW => by
        obtain ⟨cb', co', e1, e2⟩ := HIT.out W (hB.trans (hW.mono hB.size)) i hlt
        obtain ⟨rfl, rfl⟩ : cb = cb' ∧ co = co' := by injection e1 with e1; injection e1 with e1 e2; exact ⟨e1, e2⟩
        rw [e2, hy]
      clear hb hy
      by_cases h1 : y < 0
      · have hf := Lib.hid (hno.out (.inl (by omega)))
        clear hno hnext hyes hall
        go_wp2_with (fail)
        go_ret
        exact ⟨by rw [hf.out]; rfl, hB⟩
      · by_cases h2 : n ≤ y
        · have hf := Lib.hid (hno.out (.inl (by omega)))
          clear hno hnext hyes hall
          go_wp2_with (fail)
          go_ret
          exact ⟨by rw [hf.out]; rfl, hB⟩
        · have HB := Lib.hid hB
          clear hB
          go_wp2_with (fail)
          go_loopw [4, 6] (fun _ t wx => ∃ j : Nat, j ≤ i ∧ t = .int .i64 (j : Int) ∧ Hid (∀ t (ht : t < l.length), t < j → l[t] ≠ y) ∧ Below wr.heap.size wr wx) (fun _ t _ => i - (RowKit.intOf t).toNat)
          case atStart => exact ⟨0, Nat.zero_le _, rfl, Lib.hid fun t _ ht => absurd ht (Nat.not_lt_zero _), Below.refl _ _⟩
          case round =>
            obtain ⟨j, hj, rfl, hne, hBx⟩ := hrel
            rename World => wx
            by_cases hji : j < i
            · have z1 : (j : Int) < (i : Int) := by omega
              have z2 : (j : Int) < (l.length : Int) := by omega
              have cy := HC.out wx hBx
              obtain ⟨cb', co', e1, cj⟩ := HIT.out wx (HB.out.trans (hBx.mono HB.out.size)) j (by omega)
              obtain ⟨rfl, rfl⟩ : cb = cb' ∧ co = co' := by injection e1 with e1; injection e1 with e1 e2; exact ⟨e1, e2⟩
              obtain ⟨x, hx⟩ : ∃ x, l[j]'(by omega) = x := ⟨_, rfl⟩
              rw [hx] at cj
              have HBx := Lib.hid hBx
              clear hc hBx e1
              by_cases hxy : x = y
              · have hf := Lib.hid (hno.out (.inr (hyes.out j (by omega) hji (by rw [hx, hxy]))))
                have t1 : (x == y) = true := by rw [hxy]; exact beq_self_eq_true _
                have hfin : Hid (∀ q, Below w.heap.size w (wx.drewN q)) := Lib.hid fun q => (HB.out.trans (HBx.out.mono HB.out.size)).trans ⟨rfl, rfl, rfl, Nat.le_refl _, fun _ _ => rfl⟩
                clear hx hxy hno hnext hyes hall hne
                go_wp2
                go_quiet (fail)
                go_wp2
                go_ret
                exact ⟨by rw [hf.out]; rfl, hfin.out _⟩
              · have t1 : (x == y) = false := by rw [beq_eq_false_iff_ne]; exact hxy
                have hn1 : Hid (∀ t (ht : t < l.length), t < j + 1 → l[t] ≠ y) := Lib.hid fun t ht htj e => by
                  rcases Nat.lt_succ_iff_lt_or_eq.1 htj with h3 | rfl
                  · exact hne.out t ht h3 e
                  · exact hxy (by rw [← hx]; exact e)
                have hfin : Hid (∀ q, Below wr.heap.size wr (wx.drewN q)) := Lib.hid fun q => HBx.out.trans ⟨rfl, rfl, rfl, Nat.le_refl _, fun _ _ => rfl⟩
                clear hx hxy hne
                go_wp2
                go_quiet (fail)
                go_wp2
                go_roundw
                case rel => exact ⟨j + 1, by omega, by go_num, hn1, hfin.out _⟩
                case measure => simp [RowKit.intOf]; omega
            · obtain rfl : j = i := by omega
              have z1 : ¬ ((j : Int) < (j : Int)) := by omega
              have hf := Lib.hid (hnext.out ⟨by omega, by omega⟩ (hall.out fun t ht htj => hne.out t ht htj))
              have HBx := Lib.hid (HB.out.trans (hBx.mono HB.out.size))
              clear hno hnext hyes hall hne hBx hc hji
              go_wp2_with (fail)
              go_roundw
              case rel => exact ⟨j + 1, by omega, by go_num, Lib.hid hf.out, HBx.out⟩
              case measure => simp [RowKit.intOf]; omega
    · obtain rfl : i = l.length := by omega
      have y1 : ¬ ((l.length : Int) < (l.length : Int)) := by omega
      have hf : Hid (srightB l n = true) := Lib.hid (decide_eq_true ⟨fun x hx => by
        obtain ⟨j, hj, e⟩ := List.getElem_of_mem hx
        rw [← e]; exact hb.out.1 j hj hj, by have := hb.out.2; rwa [List.take_length] at this⟩)
      clear hb
      go_wp2_with (fail)
      go_ret
      exact ⟨by rw [hf.out]; rfl, hB⟩
theorem kallow_eq (id K M B N : Int) (l : List Int) : allowB n R id K M B l N = (sfitsB n R id K M B && (srightB l (gSlots K M B) && (decide (0 ≤ N) && decide (N < gStripes K M B)))) := by
  unfold allowB
  cases h : sfitsB n R id K M B with
  | false => rfl
  | true =>
    have e : (n : Int) = gSlots K M B := by
      unfold sfitsB at h
      simp only [Bool.and_eq_true, decide_eq_true_iff, beq_iff_eq] at h
      exact h.2.2.2.1
    rw [e]
set_option maxHeartbeats 4000000 in
theorem kallow_any (h : KA w S w1 k n R) (id K M B : Int) (v : Value) (l : List Int) (hv : Reads w1 v (l.map (.int .i64))) (hl : l.length ≤ 1000000) (N : Int) :
    Calls Tryz.prog 48 #[.pointer (some ⟨k, 0, none⟩), .int .i64 id, .agg #[.int .i64 K, .int .i64 M, .int .i64 B], v, .int .i64 N] w1 fun e w' => e = .returned (.bool (allowB n R id K M B l N)) ∧ Below w1.heap.size w1 w' := by
  obtain ⟨wb, hwb⟩ : ∃ wb, wb = w1.alloc (.cells #[.int .i64 K, .int .i64 M, .int .i64 B] 23) := ⟨_, rfl⟩
  have hb0 : Below w1.heap.size w1 wb := by rw [hwb]; exact (Below.refl _ _).alloc (Nat.le_refl _) _
  have hA : SGeoAt wb w1.heap.size K M B := by rw [hwb]; exact SGeoAt.new w1 K M B
  have cF := kfits_any (h.after hb0) id K M B
  have cS : ∀ W, Calls Tryz.prog 38 #[.agg #[.int .i64 K, .int .i64 M, .int .i64 B]] W fun e w' => e = .returned (.int .i64 (gSlots K M B)) ∧ Below W.heap.size W w' := fun W => rslots_any K M B W
  have cT : ∀ W, Calls Tryz.prog 23 #[.agg #[.int .i64 K, .int .i64 M, .int .i64 B]] W fun e w' => e = .returned (.int .i64 (gStripes K M B)) ∧ Below W.heap.size W w' := fun W => rstripes_any K M B W
  have cN : ∀ W, Below w1.heap.size w1 W → Calls Tryz.prog 52 #[v, .int .i64 (gSlots K M B)] W fun e w' => e = .returned (.bool (srightB l (gSlots K M B))) ∧ Below W.heap.size W w' := fun W hW => named_any v l W (hv.below hW) hl _
  have he := Lib.hid (kallow_eq (n := n) (R := R) id K M B N l)
  generalize allowB n R id K M B l N = X at *
  generalize sfitsB n R id K M B = b1 at *
  generalize srightB l (gSlots K M B) = b2 at *
  generalize gSlots K M B = s at *
  generalize gStripes K M B = t at *
  clear h hv
  obtain ⟨e0, e1, e2, elt⟩ := hA
  go_enter Tryz.func48, Tryz.ntmps48
  go_wp2_with (fail)
  rw [show w1.alloc (.cells #[.int .i64 K, .int .i64 M, .int .i64 B] 23) = wb from hwb.symm]
  clear hwb
  refine cF.mono ?_
  rintro e w2 ⟨rfl, b2'⟩
  have gl : w1.heap.size < w2.heap.size := Nat.lt_of_lt_of_le elt b2'.size
  have g0 : w2.cell? ⟨w1.heap.size, 0, none⟩ = some (.int .i64 K) := (b2'.cell (p := ⟨w1.heap.size, 0, none⟩) elt).trans e0
  have g1 : w2.cell? ⟨w1.heap.size, 1, none⟩ = some (.int .i64 M) := (b2'.cell (p := ⟨w1.heap.size, 1, none⟩) elt).trans e1
  have g2 : w2.cell? ⟨w1.heap.size, 2, none⟩ = some (.int .i64 B) := (b2'.cell (p := ⟨w1.heap.size, 2, none⟩) elt).trans e2
  have H2 := Lib.hid (hb0.trans (b2'.mono hb0.size))
  clear cF e0 e1 e2 elt b2' hb0
  go_wp2_with (fail)
  refine (cS w2).mono ?_
  rintro e w3 ⟨rfl, b3⟩
  have cN3 := cN w3 (H2.out.trans (b3.mono H2.out.size))
  have B3 := Lib.hid b3
  clear cN b3
  go_wp2_with (fail)
  refine cN3.mono ?_
  rintro e w4 ⟨rfl, b4⟩
  have b24 := B3.out.trans (b4.mono B3.out.size)
  have f0 : w4.cell? ⟨w1.heap.size, 0, none⟩ = some (.int .i64 K) := (b24.cell (p := ⟨w1.heap.size, 0, none⟩) gl).trans g0
  have f1 : w4.cell? ⟨w1.heap.size, 1, none⟩ = some (.int .i64 M) := (b24.cell (p := ⟨w1.heap.size, 1, none⟩) gl).trans g1
  have f2 : w4.cell? ⟨w1.heap.size, 2, none⟩ = some (.int .i64 B) := (b24.cell (p := ⟨w1.heap.size, 2, none⟩) gl).trans g2
  have H4 := Lib.hid (H2.out.trans (b24.mono H2.out.size))
  clear cN3 b4 b24 g0 g1 g2 gl
  cases b1 with
  | false =>
    go_wp2_with (fail)
    go_ret
    exact ⟨by rw [he.out]; rfl, H4.out⟩
  | true =>
    cases b2 with
    | false =>
      go_wp2_with (fail)
      go_ret
      exact ⟨by rw [he.out]; rfl, H4.out⟩
    | true =>
      by_cases hN : 0 ≤ N
      · have he2 : Hid (X = decide (N < t)) := Lib.hid (by rw [he.out, decide_eq_true hN]; rfl)
        go_wp2_with (fail)
        refine (cT w4).mono ?_
        rintro e w5 ⟨rfl, b5⟩
        have H5 := Lib.hid (H4.out.trans (b5.mono H4.out.size))
        clear cT cS b5
        go_wp2_with (fail)
        go_ret
        exact ⟨by rw [he2.out]; rfl, H5.out⟩
      · have he2 : Hid (X = false) := Lib.hid (by rw [he.out, decide_eq_false hN]; rfl)
        go_wp2_with (fail)
        go_ret
        exact ⟨by rw [he2.out]; rfl, H4.out⟩
end
end Go.Proofs.YtjgafpkpoppcbaaGreatDoor
