/- label: a label as a value; what is right, walked. -/
import Derived.Test.YtaopknddpagjeaaDoorLabWalk1
namespace Go.Proofs.YtaopknddpagjeaaDoor
open Go.RowKit
set_option linter.unusedVariables false
set_option linter.unusedSimpArgs false
open Lb

/-- A label as a value, with its three slices. -/
def Lbl.v (x : Lbl) (vs vb vc : Value) : Value := .agg #[.int .i64 x.i, .int .i64 x.s, .int .i64 x.g, .int .i64 x.k, .int .i64 x.m, .int .i64 x.b, vs, vb, vc]
/-- What the three slices read as. -/
structure LR (w : World) (x : Lbl) (vs vb vc : Value) : Prop where
  s : Reads w vs (x.st.map (.int .i64))
  b : Reads w vb (x.bo.map (.int .i64))
  c : Reads w vc (x.cu.map (.int .i64))
  ls : x.st.length ≤ 140737488355328
  lb : x.bo.length ≤ 140737488355328
  lc : x.cu.length ≤ 140737488355328
theorem LR.below {w w' : World} {x : Lbl} {vs vb vc : Value} (h : LR w x vs vb vc) (hb : Below w.heap.size w w') : LR w' x vs vb vc := ⟨h.s.below hb, h.b.below hb, h.c.below hb, h.ls, h.lb, h.lc⟩
/-- A box that holds a label. -/
structure LblAt (w : World) (p : Nat) (x : Lbl) (vs vb vc : Value) : Prop where
  c0 : w.cell? ⟨p, 0, none⟩ = some (.int .i64 x.i)
  c1 : w.cell? ⟨p, 1, none⟩ = some (.int .i64 x.s)
  c2 : w.cell? ⟨p, 2, none⟩ = some (.int .i64 x.g)
  c3 : w.cell? ⟨p, 3, none⟩ = some (.int .i64 x.k)
  c4 : w.cell? ⟨p, 4, none⟩ = some (.int .i64 x.m)
  c5 : w.cell? ⟨p, 5, none⟩ = some (.int .i64 x.b)
  c6 : w.cell? ⟨p, 6, none⟩ = some (vs)
  c7 : w.cell? ⟨p, 7, none⟩ = some (vb)
  c8 : w.cell? ⟨p, 8, none⟩ = some (vc)
  lt : p < w.heap.size
theorem LblAt.below {w w' : World} {B p : Nat} {x : Lbl} {vs vb vc : Value} (h : LblAt w p x vs vb vc) (hb : Below B w w') (hB : p < B) : LblAt w' p x vs vb vc :=
  ⟨by rw [hb.cell (p := ⟨p, 0, none⟩) hB]; exact h.c0, by rw [hb.cell (p := ⟨p, 1, none⟩) hB]; exact h.c1, by rw [hb.cell (p := ⟨p, 2, none⟩) hB]; exact h.c2, by rw [hb.cell (p := ⟨p, 3, none⟩) hB]; exact h.c3, by rw [hb.cell (p := ⟨p, 4, none⟩) hB]; exact h.c4, by rw [hb.cell (p := ⟨p, 5, none⟩) hB]; exact h.c5, by rw [hb.cell (p := ⟨p, 6, none⟩) hB]; exact h.c6, by rw [hb.cell (p := ⟨p, 7, none⟩) hB]; exact h.c7, by rw [hb.cell (p := ⟨p, 8, none⟩) hB]; exact h.c8, Nat.lt_of_lt_of_le h.lt hb.size⟩
theorem LblAt.made (w : World) (x : Lbl) (vs vb vc : Value) (T : TypeId) : LblAt (w.alloc (.cells #[.int .i64 x.i, .int .i64 x.s, .int .i64 x.g, .int .i64 x.k, .int .i64 x.m, .int .i64 x.b, vs, vb, vc] T)) w.heap.size x vs vb vc :=
  ⟨by rw [World.cell?_alloc_mark]; rfl, by rw [World.cell?_alloc_mark]; rfl, by rw [World.cell?_alloc_mark]; rfl, by rw [World.cell?_alloc_mark]; rfl, by rw [World.cell?_alloc_mark]; rfl, by rw [World.cell?_alloc_mark]; rfl, by rw [World.cell?_alloc_mark]; rfl, by rw [World.cell?_alloc_mark]; rfl, by rw [World.cell?_alloc_mark]; rfl, by simp⟩
theorem LblAt.cls {w : World} {p : Nat} {x : Lbl} {vs vb vc : Value} (h : LblAt w p x vs vb vc) {Z : Type} {f : Z → World} (hD : ∀ z, Below w.heap.size w (f z)) :
    (∀ z, (f z).cell? ⟨p, 0, none⟩ = some (.int .i64 x.i)) ∧ (∀ z, (f z).cell? ⟨p, 1, none⟩ = some (.int .i64 x.s)) ∧ (∀ z, (f z).cell? ⟨p, 2, none⟩ = some (.int .i64 x.g)) ∧ (∀ z, (f z).cell? ⟨p, 3, none⟩ = some (.int .i64 x.k)) ∧ (∀ z, (f z).cell? ⟨p, 4, none⟩ = some (.int .i64 x.m)) ∧ (∀ z, (f z).cell? ⟨p, 5, none⟩ = some (.int .i64 x.b)) ∧ (∀ z, (f z).cell? ⟨p, 6, none⟩ = some (vs)) ∧ (∀ z, (f z).cell? ⟨p, 7, none⟩ = some (vb)) ∧ (∀ z, (f z).cell? ⟨p, 8, none⟩ = some (vc)) :=
  have hz := clsCell hD
  ⟨fun z => (hz z _ _ h.lt).trans h.c0, fun z => (hz z _ _ h.lt).trans h.c1, fun z => (hz z _ _ h.lt).trans h.c2, fun z => (hz z _ _ h.lt).trans h.c3, fun z => (hz z _ _ h.lt).trans h.c4, fun z => (hz z _ _ h.lt).trans h.c5, fun z => (hz z _ _ h.lt).trans h.c6, fun z => (hz z _ _ h.lt).trans h.c7, fun z => (hz z _ _ h.lt).trans h.c8⟩
set_option maxRecDepth 100000 in
set_option maxHeartbeats 8000000 in
theorem lright_any (x : Lbl) (vs vb vc : Value) (w : World) (h : LR w x vs vb vc) : Calls Tryd.prog 15 #[x.v vs vb vc] w (Tells w (.bool (rightB x))) := by
  have hb0 : Below w.heap.size w (w.alloc (.cells #[.int .i64 x.i, .int .i64 x.s, .int .i64 x.g, .int .i64 x.k, .int .i64 x.m, .int .i64 x.b, vs, vb, vc] 26)) := (Below.refl _ _).alloc (Nat.le_refl _) _
  have hA := LblAt.made w x vs vb vc 26
  have cS : ∀ W, Calls Tryd.prog 36 #[.agg #[.int .i64 x.k, .int .i64 x.m, .int .i64 x.b]] W fun e w' => e = .returned (.int .i64 (nS x)) ∧ Below W.heap.size W w' := fun W => slots_any x.k x.m x.b W
  have cT : ∀ W, Calls Tryd.prog 45 #[.agg #[.int .i64 x.k, .int .i64 x.m, .int .i64 x.b]] W fun e w' => e = .returned (.int .i64 (nT x)) ∧ Below W.heap.size W w' := fun W => stripes_any x.k x.m x.b W
  have c1 : ∀ W, Calls Tryd.prog 43 #[.int .i64 x.i, .int .i64 1, .int .i64 65535] W fun e w' => e = .returned (.bool (wi x.i 1 65535)) ∧ Below W.heap.size W w' := fun W => within_any x.i 1 65535 W
  have c2 : ∀ W, Calls Tryd.prog 43 #[.int .i64 x.s, .int .i64 0, .int .i64 (nS x - 1)] W fun e w' => e = .returned (.bool (wi x.s 0 (nS x - 1))) ∧ Below W.heap.size W w' := fun W => within_any x.s 0 (nS x - 1) W
  have c3 : ∀ W, Calls Tryd.prog 43 #[.int .i64 x.g, .int .i64 1, .int .i64 1099511627776] W fun e w' => e = .returned (.bool (wi x.g 1 1099511627776)) ∧ Below W.heap.size W w' := fun W => within_any x.g 1 1099511627776 W
  have c4 : ∀ W, Below w.heap.size w W → Calls Tryd.prog 44 #[vs, .int .i64 (nS x), .int .i64 0, .int .i64 2] W fun e w' => e = .returned (.bool (areB x.st (nS x) 0 2)) ∧ Below W.heap.size W w' := fun W hW => are_any vs x.st W (h.s.below hW) h.ls (nS x) 0 2
  have c5 : ∀ W, Below w.heap.size w W → Calls Tryd.prog 44 #[vb, .int .i64 (nS x), .int .i64 0, .int .i64 x.g] W fun e w' => e = .returned (.bool (areB x.bo (nS x) 0 x.g)) ∧ Below W.heap.size W w' := fun W hW => are_any vb x.bo W (h.b.below hW) h.lb (nS x) 0 x.g
  have c6 : ∀ W, Below w.heap.size w W → Calls Tryd.prog 44 #[vc, .int .i64 (nS x), .int .i64 0, .int .i64 (nT x)] W fun e w' => e = .returned (.bool (areB x.cu (nS x) 0 (nT x))) ∧ Below W.heap.size W w' := fun W hW => are_any vc x.cu W (h.c.below hW) h.lc (nS x) 0 (nT x)
  have he : rightB x = _ := rfl
  conv at he => rhs; unfold rightB
  have hr : 0 ≤ nS x ∧ nS x ≤ 7 := slots_rng x.k x.m x.b
  unfold Lbl.v
  generalize wi x.i 1 65535 = b1 at *
  generalize wi x.s 0 (nS x - 1) = b2 at *
  generalize wi x.g 1 1099511627776 = b3 at *
  generalize areB x.st (nS x) 0 2 = b4 at *
  generalize areB x.bo (nS x) 0 x.g = b5 at *
  generalize areB x.cu (nS x) 0 (nT x) = b6 at *
  generalize nS x = n at *
  generalize nT x = t at *
  generalize rightB x = R at *
  replace he := Lib.hid he
  clear h
  generalize hwb : w.alloc (.cells #[.int .i64 x.i, .int .i64 x.s, .int .i64 x.g, .int .i64 x.k, .int .i64 x.m, .int .i64 x.b, vs, vb, vc] 26) = wb at *
  cases b1 with
  | false =>
    go_enter Tryd.func15, Tryd.ntmps15
    have ⟨e0, e1, e2, e3, e4, e5, e6, e7, e8, elt⟩ := hA
    go_wp2_with (fail)
    refine (cS _).mono ?_
    rintro e w2 ⟨rfl, b2⟩
    have hA2 := hA.below b2 hA.lt
    have hbb := below_c hb0 b2
    clear hA hwb e0 e1 e2 e3 e4 e5 e6 e7 e8
    go_wp2_with (fail)
    refine wp_region_cls (Below w2.heap.size w2) (by kernel_rfl) (by kernel_rfl) (Below.refl _ _).drew ?_
    intro Z f hne hD hE
    obtain ⟨d0, d1, d2, d3, d4, d5, d6, d7, d8⟩ := hA2.cls hD
    have hDw : ∀ z, Below w.heap.size w (f z) := fun z => below_c hbb (hD z)
    clear hA2
    iterate 39 (go_big_quiet_step (first | (go_at_call 43; with_reducible exact toQB hD hE _ (c1 _))))
    refine wpQuiet_nil ?_
    intro _ hw'
    obtain ⟨zq, hw''⟩ := hw'
    subst hw''
    have hB3 := hDw zq
    clear d0 d1 d2 d3 d4 d5 d6 d7 d8
    go_wp2_with (fail)
    go_ret
    exact ⟨by rw [he.out]; rfl, hB3⟩
  | true =>
    cases b2 with
    | false =>
      go_enter Tryd.func15, Tryd.ntmps15
      have ⟨e0, e1, e2, e3, e4, e5, e6, e7, e8, elt⟩ := hA
      go_wp2_with (fail)
      refine (cS _).mono ?_
      rintro e w2 ⟨rfl, b2⟩
      have hA2 := hA.below b2 hA.lt
      have hbb := below_c hb0 b2
      clear hA hwb e0 e1 e2 e3 e4 e5 e6 e7 e8
      go_wp2_with (fail)
      refine wp_region_cls (Below w2.heap.size w2) (by kernel_rfl) (by kernel_rfl) (Below.refl _ _).drew ?_
      intro Z f hne hD hE
      obtain ⟨d0, d1, d2, d3, d4, d5, d6, d7, d8⟩ := hA2.cls hD
      have hDw : ∀ z, Below w.heap.size w (f z) := fun z => below_c hbb (hD z)
      clear hA2
      iterate 39 (go_big_quiet_step (first | (go_at_call 43; with_reducible exact toQB hD hE _ (c1 _)) | (go_at_call 43; with_reducible exact toQB hD hE _ (c2 _))))
      refine wpQuiet_nil ?_
      intro _ hw'
      obtain ⟨zq, hw''⟩ := hw'
      subst hw''
      have hB3 := hDw zq
      clear d0 d1 d2 d3 d4 d5 d6 d7 d8
      go_wp2_with (fail)
      go_ret
      exact ⟨by rw [he.out]; rfl, hB3⟩
    | true =>
      cases b3 with
      | false =>
        go_enter Tryd.func15, Tryd.ntmps15
        have ⟨e0, e1, e2, e3, e4, e5, e6, e7, e8, elt⟩ := hA
        go_wp2_with (fail)
        refine (cS _).mono ?_
        rintro e w2 ⟨rfl, b2⟩
        have hA2 := hA.below b2 hA.lt
        have hbb := below_c hb0 b2
        clear hA hwb e0 e1 e2 e3 e4 e5 e6 e7 e8
        go_wp2_with (fail)
        refine wp_region_cls (Below w2.heap.size w2) (by kernel_rfl) (by kernel_rfl) (Below.refl _ _).drew ?_
        intro Z f hne hD hE
        obtain ⟨d0, d1, d2, d3, d4, d5, d6, d7, d8⟩ := hA2.cls hD
        have hDw : ∀ z, Below w.heap.size w (f z) := fun z => below_c hbb (hD z)
        clear hA2
        iterate 39 (go_big_quiet_step (first | (go_at_call 43; with_reducible exact toQB hD hE _ (c1 _)) | (go_at_call 43; with_reducible exact toQB hD hE _ (c2 _)) | (go_at_call 43; with_reducible exact toQB hD hE _ (c3 _))))
        refine wpQuiet_nil ?_
        intro _ hw'
        obtain ⟨zq, hw''⟩ := hw'
        subst hw''
        have hB3 := hDw zq
        clear d0 d1 d2 d3 d4 d5 d6 d7 d8
        go_wp2_with (fail)
        go_ret
        exact ⟨by rw [he.out]; rfl, hB3⟩
      | true =>
        cases b4 with
        | false =>
          go_enter Tryd.func15, Tryd.ntmps15
          have ⟨e0, e1, e2, e3, e4, e5, e6, e7, e8, elt⟩ := hA
          go_wp2_with (fail)
          refine (cS _).mono ?_
          rintro e w2 ⟨rfl, b2⟩
          have hA2 := hA.below b2 hA.lt
          have hbb := below_c hb0 b2
          clear hA hwb e0 e1 e2 e3 e4 e5 e6 e7 e8
          go_wp2_with (fail)
          refine wp_region_cls (Below w2.heap.size w2) (by kernel_rfl) (by kernel_rfl) (Below.refl _ _).drew ?_
          intro Z f hne hD hE
          obtain ⟨d0, d1, d2, d3, d4, d5, d6, d7, d8⟩ := hA2.cls hD
          have hDw : ∀ z, Below w.heap.size w (f z) := fun z => below_c hbb (hD z)
          clear hA2
          iterate 39 (go_big_quiet_step (first | (go_at_call 43; with_reducible exact toQB hD hE _ (c1 _)) | (go_at_call 43; with_reducible exact toQB hD hE _ (c2 _)) | (go_at_call 43; with_reducible exact toQB hD hE _ (c3 _)) | (go_at_call 44; with_reducible exact toQB hD hE _ (c4 _ (hDw _)))))
          refine wpQuiet_nil ?_
          intro _ hw'
          obtain ⟨zq, hw''⟩ := hw'
          subst hw''
          have hB3 := hDw zq
          clear d0 d1 d2 d3 d4 d5 d6 d7 d8
          go_wp2_with (fail)
          go_ret
          exact ⟨by rw [he.out]; rfl, hB3⟩
        | true =>
          cases b5 with
          | false =>
            go_enter Tryd.func15, Tryd.ntmps15
            have ⟨e0, e1, e2, e3, e4, e5, e6, e7, e8, elt⟩ := hA
            go_wp2_with (fail)
            refine (cS _).mono ?_
            rintro e w2 ⟨rfl, b2⟩
            have hA2 := hA.below b2 hA.lt
            have hbb := below_c hb0 b2
            clear hA hwb e0 e1 e2 e3 e4 e5 e6 e7 e8
            go_wp2_with (fail)
            refine wp_region_cls (Below w2.heap.size w2) (by kernel_rfl) (by kernel_rfl) (Below.refl _ _).drew ?_
            intro Z f hne hD hE
            obtain ⟨d0, d1, d2, d3, d4, d5, d6, d7, d8⟩ := hA2.cls hD
            have hDw : ∀ z, Below w.heap.size w (f z) := fun z => below_c hbb (hD z)
            clear hA2
            iterate 39 (go_big_quiet_step (first | (go_at_call 43; with_reducible exact toQB hD hE _ (c1 _)) | (go_at_call 43; with_reducible exact toQB hD hE _ (c2 _)) | (go_at_call 43; with_reducible exact toQB hD hE _ (c3 _)) | (go_at_call 44; with_reducible exact toQB hD hE _ (c4 _ (hDw _))) | (go_at_call 44; with_reducible exact toQB hD hE _ (c5 _ (hDw _)))))
            refine wpQuiet_nil ?_
            intro _ hw'
            obtain ⟨zq, hw''⟩ := hw'
            subst hw''
            have hB3 := hDw zq
            clear d0 d1 d2 d3 d4 d5 d6 d7 d8
            go_wp2_with (fail)
            go_ret
            exact ⟨by rw [he.out]; rfl, hB3⟩
          | true =>
            cases b6 with
            | false =>
              go_enter Tryd.func15, Tryd.ntmps15
              have ⟨e0, e1, e2, e3, e4, e5, e6, e7, e8, elt⟩ := hA
              go_wp2_with (fail)
              refine (cS _).mono ?_
              rintro e w2 ⟨rfl, b2⟩
              have hA2 := hA.below b2 hA.lt
              have hbb := below_c hb0 b2
              clear hA hwb e0 e1 e2 e3 e4 e5 e6 e7 e8
              go_wp2_with (fail)
              refine wp_region_cls (Below w2.heap.size w2) (by kernel_rfl) (by kernel_rfl) (Below.refl _ _).drew ?_
              intro Z f hne hD hE
              obtain ⟨d0, d1, d2, d3, d4, d5, d6, d7, d8⟩ := hA2.cls hD
              have hDw : ∀ z, Below w.heap.size w (f z) := fun z => below_c hbb (hD z)
              clear hA2
              iterate 39 (go_big_quiet_step (first | (go_at_call 43; with_reducible exact toQB hD hE _ (c1 _)) | (go_at_call 43; with_reducible exact toQB hD hE _ (c2 _)) | (go_at_call 43; with_reducible exact toQB hD hE _ (c3 _)) | (go_at_call 44; with_reducible exact toQB hD hE _ (c4 _ (hDw _))) | (go_at_call 44; with_reducible exact toQB hD hE _ (c5 _ (hDw _))) | (go_at_call 44; with_reducible exact toQB hD hE _ (c6 _ (hDw _))) | (go_at_call 45; with_reducible exact toQB hD hE _ (cT _))))
              refine wpQuiet_nil ?_
              intro _ hw'
              obtain ⟨zq, hw''⟩ := hw'
              subst hw''
              have hB3 := hDw zq
              clear d0 d1 d2 d3 d4 d5 d6 d7 d8
              go_wp2_with (fail)
              go_ret
              exact ⟨by rw [he.out]; rfl, hB3⟩
            | true =>
              go_enter Tryd.func15, Tryd.ntmps15
              have ⟨e0, e1, e2, e3, e4, e5, e6, e7, e8, elt⟩ := hA
              go_wp2_with (fail)
              refine (cS _).mono ?_
              rintro e w2 ⟨rfl, b2⟩
              have hA2 := hA.below b2 hA.lt
              have hbb := below_c hb0 b2
              clear hA hwb e0 e1 e2 e3 e4 e5 e6 e7 e8
              go_wp2_with (fail)
              refine wp_region_cls (Below w2.heap.size w2) (by kernel_rfl) (by kernel_rfl) (Below.refl _ _).drew ?_
              intro Z f hne hD hE
              obtain ⟨d0, d1, d2, d3, d4, d5, d6, d7, d8⟩ := hA2.cls hD
              have hDw : ∀ z, Below w.heap.size w (f z) := fun z => below_c hbb (hD z)
              clear hA2
              iterate 39 (go_big_quiet_step (first | (go_at_call 43; with_reducible exact toQB hD hE _ (c1 _)) | (go_at_call 43; with_reducible exact toQB hD hE _ (c2 _)) | (go_at_call 43; with_reducible exact toQB hD hE _ (c3 _)) | (go_at_call 44; with_reducible exact toQB hD hE _ (c4 _ (hDw _))) | (go_at_call 44; with_reducible exact toQB hD hE _ (c5 _ (hDw _))) | (go_at_call 44; with_reducible exact toQB hD hE _ (c6 _ (hDw _))) | (go_at_call 45; with_reducible exact toQB hD hE _ (cT _))))
              refine wpQuiet_nil ?_
              intro _ hw'
              obtain ⟨zq, hw''⟩ := hw'
              subst hw''
              have hB3 := hDw zq
              clear d0 d1 d2 d3 d4 d5 d6 d7 d8
              go_wp2_with (fail)
              go_ret
              exact ⟨by rw [he.out]; rfl, hB3⟩
end Go.Proofs.YtaopknddpagjeaaDoor
