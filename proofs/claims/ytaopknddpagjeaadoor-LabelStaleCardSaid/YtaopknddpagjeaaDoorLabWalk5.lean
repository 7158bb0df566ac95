/- label: labels compared; the document's own answers. -/
import Derived.Test.YtaopknddpagjeaaDoorLabWalk4
namespace Go.Proofs.YtaopknddpagjeaaDoor
open Go.RowKit
set_option linter.unusedVariables false
set_option linter.unusedSimpArgs false
open Lb

theorem wi_parts {n lo hi : Int} (h1 : ¬ n < lo) (h2 : ¬ n > hi) : wi n lo hi = true := decide_eq_true (by omega)
set_option maxRecDepth 100000 in
set_option maxHeartbeats 8000000 in
theorem rright10_any (x : Lbl) (vs vb vc : Value) (w : World) (h : LR w x vs vb vc) : Calls Tryd.prog 16 #[x.v vs vb vc] w (Tells w (.bool (rightB x))) := by
  have hbb : Below w.heap.size w (w.alloc (.cells #[.int .i64 x.i, .int .i64 x.s, .int .i64 x.g, .int .i64 x.k, .int .i64 x.m, .int .i64 x.b, vs, vb, vc] 26)) := (Below.refl _ _).alloc (Nat.le_refl _) _
  have hA := LblAt.made w x vs vb vc 26
  have cG : ∀ W, Calls Tryd.prog 46 #[.agg #[.int .i64 x.k, .int .i64 x.m, .int .i64 x.b]] W fun e w' => e = .returned (.bool (gR x.k x.m x.b)) ∧ Below W.heap.size W w' := fun W => rright_any x.k x.m x.b W
  obtain ⟨n, hn⟩ : ∃ n, nS x = n := ⟨_, rfl⟩
  obtain ⟨t, ht⟩ : ∃ t, nT x = t := ⟨_, rfl⟩
  have cS : ∀ W, Calls Tryd.prog 41 #[.agg #[.int .i64 x.k, .int .i64 x.m, .int .i64 x.b]] W fun e w' => e = .returned (.int .i64 n) ∧ Below W.heap.size W w' := fun W => hn ▸ rslots_any x.k x.m x.b W
  have cT : ∀ W, Calls Tryd.prog 48 #[.agg #[.int .i64 x.k, .int .i64 x.m, .int .i64 x.b]] W fun e w' => e = .returned (.int .i64 t) ∧ Below W.heap.size W w' := fun W => ht ▸ rstripes_any x.k x.m x.b W
  have c4 : ∀ W, Below w.heap.size w W → Calls Tryd.prog 47 #[vs, .int .i64 n, .int .i64 2] W fun e w' => e = .returned (.bool (areB x.st n 0 2)) ∧ Below W.heap.size W w' := fun W hW => numbers_any vs x.st W (h.s.below hW) h.ls n 2
  have c5 : ∀ W, Below w.heap.size w W → Calls Tryd.prog 47 #[vb, .int .i64 n, .int .i64 x.g] W fun e w' => e = .returned (.bool (areB x.bo n 0 x.g)) ∧ Below W.heap.size W w' := fun W hW => numbers_any vb x.bo W (h.b.below hW) h.lb n x.g
  have c6 : ∀ W, Below w.heap.size w W → Calls Tryd.prog 47 #[vc, .int .i64 n, .int .i64 t] W fun e w' => e = .returned (.bool (areB x.cu n 0 t)) ∧ Below W.heap.size W w' := fun W hW => numbers_any vc x.cu W (h.c.below hW) h.lc n t
  have he : rightB x = _ := rfl
  conv at he => rhs; unfold rightB; rw [hn, ht]
  have hr : 0 ≤ n ∧ n ≤ 7 := hn ▸ slots_rng x.k x.m x.b
  have hno : gR x.k x.m x.b = false → rightB x = false := fun e => by
    cases e' : rightB x with
    | false => rfl
    | true => have := ((right_iff x).1 e').geo; rw [e] at this; cases this
  have hiff : rightB x = true → 1 ≤ x.i ∧ x.i ≤ 65535 ∧ 0 ≤ x.s ∧ x.s < n ∧ 1 ≤ x.g ∧ x.g ≤ 1099511627776 := fun e => by
    have hR := (right_iff x).1 e
    exact ⟨hR.i.1, hR.i.2, hR.s.1, hn ▸ hR.s.2, hR.g.1, hR.g.2⟩
  have hfalse : ¬ (1 ≤ x.i ∧ x.i ≤ 65535 ∧ 0 ≤ x.s ∧ x.s < n ∧ 1 ≤ x.g ∧ x.g ≤ 1099511627776) → rightB x = false := fun e => by
    cases e' : rightB x with
    | false => rfl
    | true => exact absurd (hiff e') e
  unfold Lbl.v
  generalize hG : gR x.k x.m x.b = G at *
  clear h hn ht hiff hG
  generalize hwb : w.alloc (.cells #[.int .i64 x.i, .int .i64 x.s, .int .i64 x.g, .int .i64 x.k, .int .i64 x.m, .int .i64 x.b, vs, vb, vc] 26) = wb at *
  cases G with
  | false =>
    have hz := Lib.hid (hno rfl)
    clear hno hfalse he c4 c5 c6 cT
    go_enter Tryd.func16, Tryd.ntmps16
    have ⟨e0, e1, e2, e3, e4, e5, e6, e7, e8, elt⟩ := hA
    go_wp2_with (fail)
    refine (cG _).mono ?_
    rintro e w2 ⟨rfl, b2⟩
    replace hA := hA.below b2 elt
    replace hbb := below_c hbb b2
    clear e0 e1 e2 e3 e4 e5 e6 e7 e8 elt b2 hwb
    have ⟨e0, e1, e2, e3, e4, e5, e6, e7, e8, elt⟩ := hA
    go_wp2_with (fail)
    refine (cS _).mono ?_
    rintro e w2 ⟨rfl, b2⟩
    replace hA := hA.below b2 elt
    replace hbb := below_c hbb b2
    clear e0 e1 e2 e3 e4 e5 e6 e7 e8 elt b2
    have ⟨e0, e1, e2, e3, e4, e5, e6, e7, e8, elt⟩ := hA
    clear hA
    go_wp2
    go_ret
    exact ⟨by rw [hz.out]; rfl, hbb⟩
  | true =>
    clear hno
    by_cases y1 : x.i < 1
    · have hz := Lib.hid (hfalse (by omega))
      clear hfalse he c4 c5 c6 cT
      go_enter Tryd.func16, Tryd.ntmps16
      have ⟨e0, e1, e2, e3, e4, e5, e6, e7, e8, elt⟩ := hA
      go_wp2_with (fail)
      refine (cG _).mono ?_
      rintro e w2 ⟨rfl, b2⟩
      replace hA := hA.below b2 elt
      replace hbb := below_c hbb b2
      clear e0 e1 e2 e3 e4 e5 e6 e7 e8 elt b2 hwb
      have ⟨e0, e1, e2, e3, e4, e5, e6, e7, e8, elt⟩ := hA
      go_wp2_with (fail)
      refine (cS _).mono ?_
      rintro e w2 ⟨rfl, b2⟩
      replace hA := hA.below b2 elt
      replace hbb := below_c hbb b2
      clear e0 e1 e2 e3 e4 e5 e6 e7 e8 elt b2
      have ⟨e0, e1, e2, e3, e4, e5, e6, e7, e8, elt⟩ := hA
      clear hA
      go_wp2
      go_ret
      exact ⟨by rw [hz.out]; rfl, hbb⟩
    by_cases y2 : x.i > 65535
    · have hz := Lib.hid (hfalse (by omega))
      clear hfalse he c4 c5 c6 cT
      go_enter Tryd.func16, Tryd.ntmps16
      have ⟨e0, e1, e2, e3, e4, e5, e6, e7, e8, elt⟩ := hA
      go_wp2_with (fail)
      refine (cG _).mono ?_
      rintro e w2 ⟨rfl, b2⟩
      replace hA := hA.below b2 elt
      replace hbb := below_c hbb b2
      clear e0 e1 e2 e3 e4 e5 e6 e7 e8 elt b2 hwb
      have ⟨e0, e1, e2, e3, e4, e5, e6, e7, e8, elt⟩ := hA
      go_wp2_with (fail)
      refine (cS _).mono ?_
      rintro e w2 ⟨rfl, b2⟩
      replace hA := hA.below b2 elt
      replace hbb := below_c hbb b2
      clear e0 e1 e2 e3 e4 e5 e6 e7 e8 elt b2
      have ⟨e0, e1, e2, e3, e4, e5, e6, e7, e8, elt⟩ := hA
      clear hA
      go_wp2
      go_ret
      exact ⟨by rw [hz.out]; rfl, hbb⟩
    by_cases y3 : x.s < 0
    · have hz := Lib.hid (hfalse (by omega))
      clear hfalse he c4 c5 c6 cT
      go_enter Tryd.func16, Tryd.ntmps16
      have ⟨e0, e1, e2, e3, e4, e5, e6, e7, e8, elt⟩ := hA
      go_wp2_with (fail)
      refine (cG _).mono ?_
      rintro e w2 ⟨rfl, b2⟩
      replace hA := hA.below b2 elt
      replace hbb := below_c hbb b2
      clear e0 e1 e2 e3 e4 e5 e6 e7 e8 elt b2 hwb
      have ⟨e0, e1, e2, e3, e4, e5, e6, e7, e8, elt⟩ := hA
      go_wp2_with (fail)
      refine (cS _).mono ?_
      rintro e w2 ⟨rfl, b2⟩
      replace hA := hA.below b2 elt
      replace hbb := below_c hbb b2
      clear e0 e1 e2 e3 e4 e5 e6 e7 e8 elt b2
      have ⟨e0, e1, e2, e3, e4, e5, e6, e7, e8, elt⟩ := hA
      clear hA
      go_wp2
      go_ret
      exact ⟨by rw [hz.out]; rfl, hbb⟩
    by_cases y4 : x.s ≥ n
    · have hz := Lib.hid (hfalse (by omega))
      clear hfalse he c4 c5 c6 cT
      go_enter Tryd.func16, Tryd.ntmps16
      have ⟨e0, e1, e2, e3, e4, e5, e6, e7, e8, elt⟩ := hA
      go_wp2_with (fail)
      refine (cG _).mono ?_
      rintro e w2 ⟨rfl, b2⟩
      replace hA := hA.below b2 elt
      replace hbb := below_c hbb b2
      clear e0 e1 e2 e3 e4 e5 e6 e7 e8 elt b2 hwb
      have ⟨e0, e1, e2, e3, e4, e5, e6, e7, e8, elt⟩ := hA
      go_wp2_with (fail)
      refine (cS _).mono ?_
      rintro e w2 ⟨rfl, b2⟩
      replace hA := hA.below b2 elt
      replace hbb := below_c hbb b2
      clear e0 e1 e2 e3 e4 e5 e6 e7 e8 elt b2
      have ⟨e0, e1, e2, e3, e4, e5, e6, e7, e8, elt⟩ := hA
      clear hA
      go_wp2
      go_ret
      exact ⟨by rw [hz.out]; rfl, hbb⟩
    by_cases y5 : x.g < 1
    · have hz := Lib.hid (hfalse (by omega))
      clear hfalse he c4 c5 c6 cT
      go_enter Tryd.func16, Tryd.ntmps16
      have ⟨e0, e1, e2, e3, e4, e5, e6, e7, e8, elt⟩ := hA
      go_wp2_with (fail)
      refine (cG _).mono ?_
      rintro e w2 ⟨rfl, b2⟩
      replace hA := hA.below b2 elt
      replace hbb := below_c hbb b2
      clear e0 e1 e2 e3 e4 e5 e6 e7 e8 elt b2 hwb
      have ⟨e0, e1, e2, e3, e4, e5, e6, e7, e8, elt⟩ := hA
      go_wp2_with (fail)
      refine (cS _).mono ?_
      rintro e w2 ⟨rfl, b2⟩
      replace hA := hA.below b2 elt
      replace hbb := below_c hbb b2
      clear e0 e1 e2 e3 e4 e5 e6 e7 e8 elt b2
      have ⟨e0, e1, e2, e3, e4, e5, e6, e7, e8, elt⟩ := hA
      clear hA
      go_wp2
      go_ret
      exact ⟨by rw [hz.out]; rfl, hbb⟩
    by_cases y6 : x.g > 1099511627776
    · have hz := Lib.hid (hfalse (by omega))
      clear hfalse he c4 c5 c6 cT
      go_enter Tryd.func16, Tryd.ntmps16
      have ⟨e0, e1, e2, e3, e4, e5, e6, e7, e8, elt⟩ := hA
      go_wp2_with (fail)
      refine (cG _).mono ?_
      rintro e w2 ⟨rfl, b2⟩
      replace hA := hA.below b2 elt
      replace hbb := below_c hbb b2
      clear e0 e1 e2 e3 e4 e5 e6 e7 e8 elt b2 hwb
      have ⟨e0, e1, e2, e3, e4, e5, e6, e7, e8, elt⟩ := hA
      go_wp2_with (fail)
      refine (cS _).mono ?_
      rintro e w2 ⟨rfl, b2⟩
      replace hA := hA.below b2 elt
      replace hbb := below_c hbb b2
      clear e0 e1 e2 e3 e4 e5 e6 e7 e8 elt b2
      have ⟨e0, e1, e2, e3, e4, e5, e6, e7, e8, elt⟩ := hA
      clear hA
      go_wp2
      go_ret
      exact ⟨by rw [hz.out]; rfl, hbb⟩
    have z1 := wi_parts y1 y2
    have z2 : wi x.s 0 (n - 1) = true := decide_eq_true (by omega)
    have z3 := wi_parts y5 y6
    rw [z1, z2, z3] at he
    clear z1 z2 z3 hfalse
    generalize areB x.st n 0 2 = b4 at *
    generalize areB x.bo n 0 x.g = b5 at *
    generalize areB x.cu n 0 t = b6 at *
    generalize rightB x = R at *
    replace he := Lib.hid he
    go_enter Tryd.func16, Tryd.ntmps16
    have ⟨e0, e1, e2, e3, e4, e5, e6, e7, e8, elt⟩ := hA
    go_wp2_with (fail)
    refine (cG _).mono ?_
    rintro e w2 ⟨rfl, b2⟩
    replace hA := hA.below b2 elt
    replace hbb := below_c hbb b2
    clear e0 e1 e2 e3 e4 e5 e6 e7 e8 elt b2 hwb
    have ⟨e0, e1, e2, e3, e4, e5, e6, e7, e8, elt⟩ := hA
    go_wp2_with (fail)
    refine (cS _).mono ?_
    rintro e w2 ⟨rfl, b2⟩
    replace hA := hA.below b2 elt
    replace hbb := below_c hbb b2
    clear e0 e1 e2 e3 e4 e5 e6 e7 e8 elt b2
    have ⟨e0, e1, e2, e3, e4, e5, e6, e7, e8, elt⟩ := hA
    go_wp2_with (fail)
    refine (c4 _ hbb).mono ?_
    rintro e w2 ⟨rfl, b2⟩
    replace hA := hA.below b2 elt
    replace hbb := below_c hbb b2
    clear e0 e1 e2 e3 e4 e5 e6 e7 e8 elt b2
    have ⟨e0, e1, e2, e3, e4, e5, e6, e7, e8, elt⟩ := hA
    go_wp2_with (fail)
    refine (c5 _ hbb).mono ?_
    rintro e w9 ⟨rfl, b2⟩
    have hA9 := hA.below b2 elt
    replace hbb := below_c hbb b2
    clear e0 e1 e2 e3 e4 e5 e6 e7 e8 elt b2 hA
    go_wp2_with (fail)
    refine wp_region_cls (Below w9.heap.size w9) (by kernel_rfl) (by kernel_rfl) (Below.refl _ _).drew ?_
    intro Z f hne hD hE
    obtain ⟨d0, d1, d2, d3, d4, d5, d6, d7, d8⟩ := hA9.cls hD
    have hDw : ∀ z, Below w.heap.size w (f z) := fun z => below_c hbb (hD z)
    clear hA9
    iterate 8 (go_big_quiet_step (first | (go_at_call 48; with_reducible exact toQB hD hE _ (cT _)) | (go_at_call 47; with_reducible exact toQB hD hE _ (c6 _ (hDw _)))))
    refine wpQuiet_nil ?_
    intro _ hw'
    obtain ⟨zq, hw''⟩ := hw'
    subst hw''
    have hB3 := hDw zq
    clear d0 d1 d2 d3 d4 d5 d6 d7 d8
    cases b4 <;> cases b5 <;> cases b6
    all_goals
      go_wp2_with (fail)
      go_ret
      exact ⟨by rw [he.out]; rfl, hB3⟩
end Go.Proofs.YtaopknddpagjeaaDoor
