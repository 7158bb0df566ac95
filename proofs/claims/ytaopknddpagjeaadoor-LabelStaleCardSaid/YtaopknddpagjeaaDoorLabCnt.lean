/- label: what was found in slots; counts. -/
import Derived.Test.YtaopknddpagjeaaDoorLabOwn
import Derived.Test.YtaopknddpagjeaaDoorLabWalk5
namespace Go.Proofs.YtaopknddpagjeaaDoor
open Go.RowKit
set_option linter.unusedVariables false
set_option linter.unusedSimpArgs false
open Lb

/-- What was found in a slot. -/
structure Fd where
  has : Bool
  x : Lbl
  va : Value
  vb : Value
  vc : Value
structure FAt (w : World) (b o : Nat) (f : Fd) : Prop where
  h : w.cell? ⟨b, o, none⟩ = some (.bool f.has)
  c0 : w.cell? ⟨b, o + 1, none⟩ = some (.int .i64 f.x.i)
  c1 : w.cell? ⟨b, o + 2, none⟩ = some (.int .i64 f.x.s)
  c2 : w.cell? ⟨b, o + 3, none⟩ = some (.int .i64 f.x.g)
  c3 : w.cell? ⟨b, o + 4, none⟩ = some (.int .i64 f.x.k)
  c4 : w.cell? ⟨b, o + 5, none⟩ = some (.int .i64 f.x.m)
  c5 : w.cell? ⟨b, o + 6, none⟩ = some (.int .i64 f.x.b)
  c6 : w.cell? ⟨b, o + 7, none⟩ = some f.va
  c7 : w.cell? ⟨b, o + 8, none⟩ = some f.vb
  c8 : w.cell? ⟨b, o + 9, none⟩ = some f.vc
  lt : b < w.heap.size
theorem FAt.below {w w' : World} {B b o : Nat} {f : Fd} (h : FAt w b o f) (hb : Below B w w') (hB : b < B) : FAt w' b o f :=
  ⟨by rw [hb.cell (p := ⟨b, o, none⟩) hB]; exact h.h, by rw [hb.cell (p := ⟨b, o + 1, none⟩) hB]; exact h.c0, by rw [hb.cell (p := ⟨b, o + 2, none⟩) hB]; exact h.c1, by rw [hb.cell (p := ⟨b, o + 3, none⟩) hB]; exact h.c2, by rw [hb.cell (p := ⟨b, o + 4, none⟩) hB]; exact h.c3, by rw [hb.cell (p := ⟨b, o + 5, none⟩) hB]; exact h.c4, by rw [hb.cell (p := ⟨b, o + 6, none⟩) hB]; exact h.c5, by rw [hb.cell (p := ⟨b, o + 7, none⟩) hB]; exact h.c6, by rw [hb.cell (p := ⟨b, o + 8, none⟩) hB]; exact h.c7, by rw [hb.cell (p := ⟨b, o + 9, none⟩) hB]; exact h.c8, Nat.lt_of_lt_of_le h.lt hb.size⟩
/-- A list of what was found, as it lies. -/
def FReads (w : World) (v : Value) (l : List Fd) : Prop :=
  ∃ a cap, v = .slice a l.length cap ∧ ∀ i (hi : i < l.length), ∃ b o, a = some ⟨b, o, none⟩ ∧ FAt w b (o + i * 10) l[i] ∧ LR w l[i].x l[i].va l[i].vb l[i].vc
theorem FReads.below {w w' : World} {v : Value} {l : List Fd} (h : FReads w v l) (hb : Below w.heap.size w w') : FReads w' v l := by
  obtain ⟨a, cap, e, g⟩ := h
  exact ⟨a, cap, e, fun i hi => by obtain ⟨b, o, e1, e2, e3⟩ := g i hi; exact ⟨b, o, e1, e2.below hb e2.lt, e3.below hb⟩⟩
def cntB (id : Int) (l : List Fd) (i : Nat) : Bool :=
  match l[i]? with
  | none => false
  | some f => f.has && (rightB f.x && (f.x.i == id && (f.x.s == (i : Int) && ((l.length : Int) == nS f.x))))
theorem cntB_at {id : Int} {l : List Fd} {i : Nat} (hi : i < l.length) : cntB id l i = (l[i].has && (rightB l[i].x && (l[i].x.i == id && (l[i].x.s == (i : Int) && ((l.length : Int) == nS l[i].x))))) := by
  unfold cntB; rw [List.getElem?_eq_getElem hi]
set_option maxRecDepth 100000 in
set_option maxHeartbeats 4000000 in
theorem counts_any (id : Int) (v : Value) (l : List Fd) (i : Nat) (w : World) (h : FReads w v l) (hi : i < l.length) (hl : l.length ≤ 1000) : Calls Tryd.prog 53 #[.int .i64 id, v, .int .i64 (i : Int)] w (Tells w (.bool (cntB id l i))) := by
  rw [cntB_at hi]
  obtain ⟨a, cap, rfl, g⟩ := h
  obtain ⟨b, o, rfl, hA, hL⟩ := g i hi
  clear g
  have y1 : (i : Int) < (l.length : Int) := by omega
  generalize l[i] = f at *
  clear hi
  generalize l.length = n at *
  obtain ⟨has, x, va, vb, vc⟩ := f
  obtain ⟨a1, d1, e1⟩ := hL.s.isSlice
  obtain ⟨a2, d2, e2⟩ := hL.b.isSlice
  obtain ⟨a3, d3, e3⟩ := hL.c.isSlice
  simp only at e1 e2 e3
  subst e1 e2 e3
  simp only [List.length_map] at hL hA
  simp only
  generalize x.st.length = n1 at *
  generalize x.bo.length = n2 at *
  generalize x.cu.length = n3 at *
  have cR : ∀ W, Below w.heap.size w W → Calls Tryd.prog 15 #[.agg #[.int .i64 x.i, .int .i64 x.s, .int .i64 x.g, .int .i64 x.k, .int .i64 x.m, .int .i64 x.b, .slice a1 n1 d1, .slice a2 n2 d2, .slice a3 n3 d3]] W fun e w' => e = .returned (.bool (rightB x)) ∧ Below W.heap.size W w' := fun W hW => lright_any x _ _ _ W (hL.below hW)
  have cS : ∀ W, Calls Tryd.prog 36 #[.agg #[.int .i64 x.k, .int .i64 x.m, .int .i64 x.b]] W fun e w' => e = .returned (.int .i64 (nS x)) ∧ Below W.heap.size W w' := fun W => slots_any x.k x.m x.b W
  have hr : 0 ≤ nS x ∧ nS x ≤ 7 := slots_rng x.k x.m x.b
  have hbb : Below w.heap.size w (w.alloc (.cells #[.int .i64 x.i, .int .i64 x.s, .int .i64 x.g, .int .i64 x.k, .int .i64 x.m, .int .i64 x.b, .slice a1 n1 d1, .slice a2 n2 d2, .slice a3 n3 d3] 26)) := (Below.refl _ _).alloc (Nat.le_refl _) _
  have xA := LblAt.made w x (.slice a1 n1 d1) (.slice a2 n2 d2) (.slice a3 n3 d3) 26
  have fh : (w.alloc (.cells #[.int .i64 x.i, .int .i64 x.s, .int .i64 x.g, .int .i64 x.k, .int .i64 x.m, .int .i64 x.b, .slice a1 n1 d1, .slice a2 n2 d2, .slice a3 n3 d3] 26)).cell? ⟨b, o + i * 10, none⟩ = some (.bool has) := (hbb.cell (p := ⟨b, o + i * 10, none⟩) hA.lt).trans hA.h
  have lb : b < (w.alloc (.cells #[.int .i64 x.i, .int .i64 x.s, .int .i64 x.g, .int .i64 x.k, .int .i64 x.m, .int .i64 x.b, .slice a1 n1 d1, .slice a2 n2 d2, .slice a3 n3 d3] 26)).heap.size := Nat.lt_of_lt_of_le hA.lt hbb.size
  have ⟨e, e0, e1, e2, e3, e4, e5, e6, e7, e8, elt⟩ := hA
  clear hA hL
  generalize nS x = N at *
  go_enter Tryd.func53, Tryd.ntmps53
  cases has with
  | false =>
    go_wp2_with (fail)
    go_ret
    exact ⟨rfl, hbb⟩
  | true =>
    have ⟨i0, i1, i2, i3, i4, i5, i6, i7, i8, ilt⟩ := xA
    generalize hwb : w.alloc (.cells #[.int .i64 x.i, .int .i64 x.s, .int .i64 x.g, .int .i64 x.k, .int .i64 x.m, .int .i64 x.b, .slice a1 n1 d1, .slice a2 n2 d2, .slice a3 n3 d3] 26) = wb at *
    go_wp2_with (fail)
    refine (cR _ hbb).mono ?_
    clear i0 i1 i2 i3 i4 i5 i6 i7 i8 ilt
    rintro e w2 ⟨rfl, b2⟩
    have x2 := xA.below b2 xA.lt
    have B2 := below_c hbb b2
    have f2 : w2.cell? ⟨b, o + i * 10, none⟩ = _ := (b2.cell (p := ⟨b, o + i * 10, none⟩) lb).trans fh
    clear xA hbb b2 fh lb cR e e0 e1 e2 e3 e4 e5 e6 e7 e8 elt
    have ⟨i0, i1, i2, i3, i4, i5, i6, i7, i8, ilt⟩ := x2
    generalize rightB x = R at *
    cases R with
    | false =>
      go_wp2_with (fail)
      go_ret
      exact ⟨rfl, B2⟩
    | true =>
      cases h2 : (x.i == id) with
      | false =>
        go_wp2_with (fail)
        go_ret
        exact ⟨by simp [h2], B2⟩
      | true =>
        cases h3 : (x.s == (i : Int)) with
        | false =>
          go_wp2_with (fail)
          go_ret
          exact ⟨by simp [h2, h3], B2⟩
        | true =>
          go_wp2_with (fail)
          refine (cS _).mono ?_
          rintro e w3 ⟨rfl, b3⟩
          have B3 := below_c B2 b3
          clear x2 i0 i1 i2 i3 i4 i5 i6 i7 i8 ilt B2 b3 f2 cS
          go_wp2_with (fail)
          go_ret
          exact ⟨by simp [h2, h3], B3⟩
set_option maxRecDepth 100000 in
set_option maxHeartbeats 4000000 in
theorem rcounts_any (id : Int) (v : Value) (l : List Fd) (i : Nat) (w : World) (h : FReads w v l) (hi : i < l.length) (hl : l.length ≤ 1000) : Calls Tryd.prog 55 #[.int .i64 id, v, .int .i64 (i : Int)] w (Tells w (.bool (cntB id l i))) := by
  rw [cntB_at hi]
  obtain ⟨a, cap, rfl, g⟩ := h
  obtain ⟨b, o, rfl, hA, hL⟩ := g i hi
  clear g
  have y1 : (i : Int) < (l.length : Int) := by omega
  generalize l[i] = f at *
  clear hi
  generalize l.length = n at *
  obtain ⟨has, x, va, vb, vc⟩ := f
  obtain ⟨a1, d1, e1⟩ := hL.s.isSlice
  obtain ⟨a2, d2, e2⟩ := hL.b.isSlice
  obtain ⟨a3, d3, e3⟩ := hL.c.isSlice
  simp only at e1 e2 e3
  subst e1 e2 e3
  simp only [List.length_map] at hL hA
  simp only
  generalize x.st.length = n1 at *
  generalize x.bo.length = n2 at *
  generalize x.cu.length = n3 at *
  have cR : ∀ W, Below w.heap.size w W → Calls Tryd.prog 16 #[.agg #[.int .i64 x.i, .int .i64 x.s, .int .i64 x.g, .int .i64 x.k, .int .i64 x.m, .int .i64 x.b, .slice a1 n1 d1, .slice a2 n2 d2, .slice a3 n3 d3]] W fun e w' => e = .returned (.bool (rightB x)) ∧ Below W.heap.size W w' := fun W hW => rright10_any x _ _ _ W (hL.below hW)
  have cS : ∀ W, Calls Tryd.prog 41 #[.agg #[.int .i64 x.k, .int .i64 x.m, .int .i64 x.b]] W fun e w' => e = .returned (.int .i64 (nS x)) ∧ Below W.heap.size W w' := fun W => rslots_any x.k x.m x.b W
  have hr : 0 ≤ nS x ∧ nS x ≤ 7 := slots_rng x.k x.m x.b
  have hbb : Below w.heap.size w (w.alloc (.cells #[.int .i64 x.i, .int .i64 x.s, .int .i64 x.g, .int .i64 x.k, .int .i64 x.m, .int .i64 x.b, .slice a1 n1 d1, .slice a2 n2 d2, .slice a3 n3 d3] 26)) := (Below.refl _ _).alloc (Nat.le_refl _) _
  have xA := LblAt.made w x (.slice a1 n1 d1) (.slice a2 n2 d2) (.slice a3 n3 d3) 26
  have fh : (w.alloc (.cells #[.int .i64 x.i, .int .i64 x.s, .int .i64 x.g, .int .i64 x.k, .int .i64 x.m, .int .i64 x.b, .slice a1 n1 d1, .slice a2 n2 d2, .slice a3 n3 d3] 26)).cell? ⟨b, o + i * 10, none⟩ = some (.bool has) := (hbb.cell (p := ⟨b, o + i * 10, none⟩) hA.lt).trans hA.h
  have lb : b < (w.alloc (.cells #[.int .i64 x.i, .int .i64 x.s, .int .i64 x.g, .int .i64 x.k, .int .i64 x.m, .int .i64 x.b, .slice a1 n1 d1, .slice a2 n2 d2, .slice a3 n3 d3] 26)).heap.size := Nat.lt_of_lt_of_le hA.lt hbb.size
  have ⟨e, e0, e1, e2, e3, e4, e5, e6, e7, e8, elt⟩ := hA
  clear hA hL
  generalize nS x = N at *
  go_enter Tryd.func55, Tryd.ntmps55
  have ⟨i0, i1, i2, i3, i4, i5, i6, i7, i8, ilt⟩ := xA
  generalize hwb : w.alloc (.cells #[.int .i64 x.i, .int .i64 x.s, .int .i64 x.g, .int .i64 x.k, .int .i64 x.m, .int .i64 x.b, .slice a1 n1 d1, .slice a2 n2 d2, .slice a3 n3 d3] 26) = wb at *
  go_wp2_with (fail)
  refine (cR _ hbb).mono ?_
  clear i0 i1 i2 i3 i4 i5 i6 i7 i8 ilt
  rintro e w2 ⟨rfl, b2⟩
  have x2 := xA.below b2 xA.lt
  have B2 := below_c hbb b2
  have f2 : w2.cell? ⟨b, o + i * 10, none⟩ = _ := (b2.cell (p := ⟨b, o + i * 10, none⟩) lb).trans fh
  clear xA hbb b2 fh lb cR e e0 e1 e2 e3 e4 e5 e6 e7 e8 elt
  have ⟨i0, i1, i2, i3, i4, i5, i6, i7, i8, ilt⟩ := x2
  cases has with
  | false =>
    go_wp2_with (fail)
    go_ret
    exact ⟨rfl, B2⟩
  | true =>
    generalize rightB x = R at *
    cases R with
    | false =>
      go_wp2_with (fail)
      go_ret
      exact ⟨rfl, B2⟩
    | true =>
      cases h2 : (x.i == id) with
      | false =>
        go_wp2_with (fail)
        go_ret
        exact ⟨by simp [h2], B2⟩
      | true =>
        cases h3 : (x.s == (i : Int)) with
        | false =>
          go_wp2_with (fail)
          go_ret
          exact ⟨by simp [h2, h3], B2⟩
        | true =>
          go_wp2_with (fail)
          refine (cS _).mono ?_
          rintro e w3 ⟨rfl, b3⟩
          have B3 := below_c B2 b3
          clear x2 i0 i1 i2 i3 i4 i5 i6 i7 i8 ilt B2 b3 f2 cS
          go_wp2_with (fail)
          go_ret
          exact ⟨by simp [h2, h3], B3⟩
end Go.Proofs.YtaopknddpagjeaaDoor
