import Derived.Test.YtjgafpkpoppcbaaGreatDoorLstr
set_option linter.unusedVariables false
set_option linter.unusedSimpArgs false
namespace Go.Proofs.YtjgafpkpoppcbaaGreatDoor
open Go.RowKit
set_option maxRecDepth 100000
theorem Reads.stp {w w' : World} {S S' : Nat → Prop} {v : Value} {xs : List Value} (h : Reads w v xs) (hs : Stp S S' w w') (hn : ∀ q, v.ownBlock = some q → ¬ S q) : Reads w' v xs := h.kept hs.b0.size fun q hq hlt => hs.oth q hlt (hn q hq)
structure Lst (wr : World) (S : Nat → Prop) (v : Value) (xs : List Value) : Prop where
  r : Reads wr v xs
  c : capOk v
  n : ∀ q, v.ownBlock = some q → q < wr.heap.size ∧ ¬ S q
theorem Lst.stp {w w' : World} {S S' : Nat → Prop} {v : Value} {xs : List Value} (h : Lst w S v xs) (hs : Stp S S' w w') : Lst w' S' v xs :=
  ⟨h.r.stp hs fun q hq => (h.n q hq).2, h.c, fun q hq => ⟨Nat.lt_of_lt_of_le (h.n q hq).1 hs.b0.size, fun hq2 => by
    rcases hs.grow q hq2 with z | z
    · exact (h.n q hq).2 z
    · have := (h.n q hq).1; omega⟩⟩
theorem Lst.below {w w' : World} {S : Nat → Prop} {v : Value} {xs : List Value} (h : Lst w S v xs) (hb : Below w.heap.size w w') : Lst w' S v xs := h.stp (Stp.quiet hb)
theorem Lst.new {w w' : World} {S : Nat → Prop} {E : TypeId} {v : Value} {xs : List Value} (o : Own w' w.heap.size E v xs) (hS : ∀ q, S q → q < w.heap.size) : Lst w' S v xs :=
  ⟨o.reads, o.capOk, fun q hq => ⟨(o.o.lt q hq).2, fun h => by have := hS q h; have := (o.o.lt q hq).1; omega⟩⟩
theorem Lst.own {w' : World} {S : Nat → Prop} {B : Nat} {E : TypeId} {v : Value} {xs : List Value} (o : Own w' B E v xs) (n : ∀ q, v.ownBlock = some q → ¬ S q) : Lst w' S v xs :=
  ⟨o.reads, o.capOk, fun q hq => ⟨(o.o.lt q hq).2, n q hq⟩⟩
structure SW (w : World) (S : Nat → Prop) (wr : World) (ka n g : Nat) (K M B : Int) (R : Rk) : Prop where
  ra : RA w S wr ka n R
  gb : wr.heap[g]? = some (.cells #[.int .i64 K, .int .i64 M, .int .i64 B] 23 (0, 0))
  gn : ¬ S g
  tb : Tabs wr
  two : 2 ≤ w.heap.size
section
variable {w wr w' : World} {S S' : Nat → Prop} {ka n g : Nat} {K M B : Int} {R R' : Rk}
theorem SW.gl (h : SW w S wr ka n g K M B R) : g < wr.heap.size := (Array.getElem?_eq_some_iff.1 h.gb).1
theorem SW.stp (h : SW w S wr ka n g K M B R) (hs : Stp S S' wr w') (ha : RA w S' w' ka n R') : SW w S' w' ka n g K M B R' :=
  ⟨ha, (hs.oth g h.gl h.gn).trans h.gb, fun hg => by
    rcases hs.grow g hg with z | z
    · exact h.gn z
    · have := h.gl; omega, h.tb.of_cells fun b o hb => cell_of_heap (hs.oth b (Nat.lt_of_lt_of_le hb h.tb.two) fun z => by have := RA.from h.ra b z; have := h.two; omega) o, h.two⟩
theorem SW.after (h : SW w S wr ka n g K M B R) (hb : Below wr.heap.size wr w') : SW w S w' ka n g K M B R := h.stp (Stp.quiet hb) (h.ra.after hb)
theorem rok_00 (n s : Nat) : ROk n (R00 s) 0 := ⟨⟨Int.le_refl _, Int.le_refl _⟩, ⟨Int.le_refl _, by show (0 : Int) ≤ _; omega⟩, fun i hi => Vn.none _ _ _⟩
theorem stW_ok {id N : Int} {l : List Int} {data : List ByteArray} {c : Nat} (h : ROk n R c) : ROk n (stW n R id K M B l N data).1 (c + l.length) := by
  unfold stW
  split
  · split
    · have := ea_ok (b := 1) (f := wr1 n id K M B N (encSL K M data)) wr1_ok l R [] c h
      rwa [Nat.one_mul] at this
    · exact h.le (by omega)
  · exact h.le (by omega)
theorem stF_ok {l : List Int} {c : Nat} (h : ROk n R c) : ROk n (stF n R l).1 (c + l.length) := by
  unfold stF
  split
  · have := ea_ok (b := 1) (f := fl1 n) fl1_ok l R [] c h
    rwa [Nat.one_mul] at this
  · exact h.le (by omega)
end
theorem aw_int : stW 3 (R00 72) 3 2 1 8 (allL 3) 1 awD = (awR1, [], 0) ∧ stF 3 awR1 (allL 3) = (awR2, [], 0) ∧ stR 3 awR3 3 2 1 8 (allL 3) 1 = (awD, [0], 0) ∧ stR 3 awR3 3 2 1 8 [0, 1] 1 = ([], [0], 130) ∧ awR3.acts = 6 ∧ awR3 = upR 3 awR2 0 fun M => roM M 69 5 1 := ⟨aw_model.1, aw_model.2.1, aw_model.2.2.1, aw_model.2.2.2.1, aw_model.2.2.2.2, rfl⟩
theorem aw_ok : ROk 3 awR1 3 ∧ ROk 3 awR2 6 ∧ ROk 3 awR3 6 := by
  have h1 := stW_ok (n := 3) (K := 2) (M := 1) (B := 8) (id := 3) (N := 1) (l := allL 3) (data := awD) (rok_00 3 72)
  rw [aw_int.1] at h1
  have h2 := stF_ok (l := allL 3) h1
  rw [aw_int.2.1] at h2
  have h3 := h2.up 0 (fun M => roM M 69 5 1) (fun M hM => hM.ro 69 5 1)
  rw [← aw_int.2.2.2.2.2] at h3
  exact ⟨h1, h2, h3⟩
theorem awD_fits : Fits awD ∧ awD.length = 2 := ⟨⟨by decide, fun i hi => by
  have h := dataL13_right 2 [5, 6]
  have hr := data_rect h
  have := hr.s i hi
  show (awD.getD i ⟨#[]⟩).size ≤ _
  have e : awD = dataL13 2 [5, 6] := rfl
  rw [e, this]; decide⟩, rfl⟩
theorem aw_ex : ∃ (D : List ByteArray) (R1 R2 R3 : Rk), (stW 3 (R00 72) 3 2 1 8 (allL 3) 1 D = (R1, [], 0) ∧ stF 3 R1 (allL 3) = (R2, [], 0) ∧ stR 3 R3 3 2 1 8 (allL 3) 1 = (D, [0], 0) ∧ stR 3 R3 3 2 1 8 [0, 1] 1 = ([], [0], 130) ∧ R3.acts = 6 ∧ R3 = upR 3 R2 0 fun M => roM M 69 5 1) ∧ (ROk 3 R1 3 ∧ ROk 3 R2 6 ∧ ROk 3 R3 6) ∧ (Fits D ∧ D.length = 2) ∧ dataL13 2 [5, 6] = D :=
  ⟨awD, awR1, awR2, awR3, aw_int, aw_ok, awD_fits, rfl⟩
set_option maxHeartbeats 1000000 in
theorem aw13_any (w : World) (ht : Tabs w) : Calls Tryz.prog 4 #[] w fun e w' => e = .returned (.bool true) ∧ Below w.heap.size w w' := by
  obtain ⟨D, R1, R2, R3, hE0, hOk0, hFD0, hDD0⟩ := aw_ex
  have hE := Lib.hid hE0
  have hOk := Lib.hid hOk0
  have hFD := Lib.hid hFD0
  have hDD := Lib.hid hDD0
  clear hE0 hOk0 hFD0 hDD0
  obtain ⟨W1, hW1⟩ : ∃ W1, W1 = w.alloc (.cells #[.int .i64 2, .int .i64 1, .int .i64 8] 23) := ⟨_, rfl⟩
  obtain ⟨g, hg⟩ : ∃ g, w.heap.size = g := ⟨_, rfl⟩
  have hb1 : Below w.heap.size w W1 := by rw [hW1]; exact (Below.refl _ _).alloc (Nat.le_refl _) _
  have hg1 : W1.heap[g]? = some (.cells #[.int .i64 2, .int .i64 1, .int .i64 8] 23 (0, 0)) := by rw [hW1, ← hg]; exact heap_alloc_new _ _
  have cR : Calls Tryz.prog 7 #[.agg #[.int .i64 2, .int .i64 1, .int .i64 8]] W1 (RacksTo W1 3 72) := racks_any 2 1 72 8 W1 aw_g.1 aw_g.2.1
  have ht1 := ht.below hb1 ht.two
  have h2w := ht.two
  have e0 : W1.cell? ⟨g, 0, none⟩ = some (.int .i64 2) := heap_cell hg1 rfl
  have e1 : W1.cell? ⟨g, 1, none⟩ = some (.int .i64 1) := heap_cell hg1 rfl
  have e2 : W1.cell? ⟨g, 2, none⟩ = some (.int .i64 8) := heap_cell hg1 rfl
  have HB1 := Lib.hid hb1
  have HG := Lib.hid hg
  clear ht hb1
  go_enter Tryz.func4, Tryz.ntmps4
  go_wp2_with (fail)
  rw [show w.alloc (.cells #[.int .i64 2, .int .i64 1, .int .i64 8] 23) = W1 from hW1.symm]
  clear hW1
  refine cR.mono ?_
  rintro e w2 ⟨S2, ka, wq, Sb, kb, rfl, a2, _, _, _⟩
  have h2 : SW W1 S2 w2 ka 3 g 2 1 8 (R00 72) := ⟨a2, (a2.b.block g (Array.getElem?_eq_some_iff.1 hg1).1).trans hg1, fun z => by have := a2.f g z; have := (Array.getElem?_eq_some_iff.1 hg1).1; omega, ht1.below a2.b ht1.two, ht1.two⟩
  have c0 : w2.cell? ⟨g, 0, none⟩ = some (.int .i64 2) := heap_cell h2.gb rfl
  have c1 : w2.cell? ⟨g, 1, none⟩ = some (.int .i64 1) := heap_cell h2.gb rfl
  have c2 : w2.cell? ⟨g, 2, none⟩ = some (.int .i64 8) := heap_cell h2.gb rfl
  have hgl := h2.gl
  have H2 := Lib.hid h2
  clear e0 e1 e2 cR hg1 ht1 a2 h2
  have hb3 : Below w2.heap.size w2 (w2.alloc (.cells #[.int .i64 5, .int .i64 6] 3)) := (Below.refl _ _).alloc (Nat.le_refl _) _
  have cD : Calls Tryz.prog 9 #[.agg #[.int .i64 2, .int .i64 1, .int .i64 8], .slice (some ⟨w2.heap.size, 0, none⟩) 2 2] (w2.alloc (.cells #[.int .i64 5, .int .i64 6] 3)) (GivesT (w2.alloc (.cells #[.int .i64 5, .int .i64 6] 3)) D) := by
    rw [← hDD.out]
    exact data13_any 2 1 8 _ [5, 6] _ (by decide) (.inr ⟨w2.heap.size, 0, 2, rfl, by simp, fun i hi => by
    have hn := heap_alloc_new w2 (.cells #[.int .i64 5, .int .i64 6] 3)
    match i, hi with
    | 0, _ => exact heap_cell hn rfl
    | 1, _ => exact heap_cell hn rfl⟩) (fun x hx => by
      rcases List.mem_cons.1 hx with e | e
      · omega
      · rw [List.mem_singleton] at e; omega) (by decide)
  go_wp2_with (fail)
  refine cD.mono ?_
  rintro e w3 ⟨vd, rfl, od, bd⟩
  obtain ⟨vda, vdc, hvd⟩ := od.reads.form
  rw [List.length_map, hFD.out.2] at hvd
  subst hvd
  have b23 := hb3.trans (bd.mono hb3.size)
  have h3 := H2.out.after b23
  have hd3 : Lst w3 S2 (.slice vda 2 vdc) (tx D) := Lst.own od fun q hq hS => by have := H2.out.ra.lt q hS; have := (od.o.lt q hq).1; have := hb3.size; omega
  have HD := Lib.hid hd3
  have cAll : Calls Tryz.prog 31 #[.agg #[.int .i64 2, .int .i64 1, .int .i64 8]] w3.drew (GivesZ w3.drew (allL 3)) := all13_any 2 1 8 w3.drew (by decide) (by decide)
  have CW : Hid (∀ W v, Below w3.heap.size w3 W → Own W w3.drew.heap.size 3 v ((allL 3).map (.int .i64)) → Calls Tryz.prog 10 #[.pointer (some ⟨ka, 0, none⟩), .int .i64 3, .agg #[.int .i64 2, .int .i64 1, .int .i64 8], v, .agg #[.int .i64 1, .slice vda 2 vdc]] W (EDoes W1 S2 W ka 3 (R1, [], 0))) := Lib.hid fun W v hW o => by
    have hW3 := h3.after hW
    have hdW := hd3.below hW
    have hl : Lst W S2 v _ := Lst.own o fun q hq hS => by have := h3.ra.lt q hS; have := (o.o.lt q hq).1; have e : w3.drew.heap.size = w3.heap.size := rfl; omega
    have := stw_any hW3.ra hW3.tb 0 (rok_00 3 72) 3 2 1 8 1 v (.slice vda 2 vdc) (allL 3) D hl.r hl.c (fun _ q hq => (hl.n q hq).2) (by decide) (by decide) hdW.r hFD.out.1 (by rw [hFD.out.2]; decide)
    rwa [hE.out.1] at this
  have HGL := Lib.hid hgl
  clear c0 c1 c2 cD hb3 bd od hd3 H2 hgl b23
  go_upto_region 6 with (fail)
  refine wp_region_held_drew (S := fun W => W.heap[g]? = some (.cells #[.int .i64 2, .int .i64 1, .int .i64 8] 23 (0, 0))) (by kernel_rfl) (h3.after (Below.drew_ w3)).gb (fun hHeld => ?_)
  refine wpAnyH_takeD (i := 0) (some 27) rfl (by kernel_rfl) (by kernel_rfl) (by kernel_rfl) rfl (fun _ _ _ h => h) (Or.inl ⟨by rfl, by rintro w hs1; first | rfl | (go_simp; done) | (go_simp; rfl)⟩) (by assumption) ?_
  simp only [Act.put, List.setIfInBounds_toArray, List.set_cons_zero, List.set_cons_succ]
  refine wpAnyH_takeD (i := 1) (v := .agg #[.int .i64 2, .int .i64 1, .int .i64 8]) (some 28) rfl (by kernel_rfl) (by kernel_rfl) (by kernel_rfl) rfl (fun _ _ _ h => h) (yieldsIf_load_run (by rfl) _ rfl rfl (fun _ hs => geo_load hs)) (by assumption) ?_
  simp only [Act.put, List.setIfInBounds_toArray, List.set_cons_zero, List.set_cons_succ]
  refine wpAnyH_takeD (i := 2) (v := .agg #[.int .i64 2, .int .i64 1, .int .i64 8]) (some 29) rfl (by kernel_rfl) (by kernel_rfl) (by kernel_rfl) rfl (fun _ _ _ h => h) (yieldsIf_load_run (by rfl) _ rfl rfl (fun _ hs => geo_load hs)) (by assumption) ?_
  simp only [Act.put, List.setIfInBounds_toArray, List.set_cons_zero, List.set_cons_succ]
  refine wpAnyH_takeD (i := 4) (some 31) rfl (by kernel_rfl) (by kernel_rfl) (by kernel_rfl) rfl (fun _ _ _ h => h) (Or.inl ⟨by rfl, by rintro w hs1; first | rfl | (go_simp; done) | (go_simp; rfl)⟩) (by assumption) ?_
  simp only [Act.put, List.setIfInBounds_toArray, List.set_cons_zero, List.set_cons_succ]
  refine wpAnyH_takeD (i := 5) (v := .agg #[.int .i64 1, .slice vda 2 vdc]) (some 32) rfl (by kernel_rfl) (by kernel_rfl) (by kernel_rfl) rfl (fun _ _ _ h => h) (Or.inl ⟨by rfl, by rintro w hs1; first | rfl | (go_simp; done) | (go_simp; rfl)⟩) (by assumption) ?_
  simp only [Act.put, List.setIfInBounds_toArray, List.set_cons_zero, List.set_cons_succ]
  refine wpAnyH_ready (rs := [3]) (by kernel_rfl) (by simp) ?_
  refine AllReadyH.cons rfl (fun K hK => ?_) AllReadyH.nil
  go_simp
  refine cAll.mono ?_
  rintro e w4 ⟨v4, rfl, o4, b4⟩
  have b34 := (Below.drew_ w3).trans b4
  refine hK.out _ _ (h3.after b34).gb (fun hHeld => ?_)
  clear hK
  try simp only [Act.put, List.setIfInBounds_toArray, List.set_cons_zero, List.set_cons_succ]
  have cW := CW.out w4 v4 b34 o4
  refine wpAnyH_ready (rs := [6]) (by kernel_rfl) (by simp) ?_
  refine AllReadyH.cons rfl (fun K hK => ?_) AllReadyH.nil
  go_simp
  refine cW.mono ?_
  rintro e w5 ⟨v5, rfl, S5, s5, a5, o5, n5⟩
  have h5 := (h3.after b34).stp s5 a5
  have d5 := (HD.out.below b34).stp s5
  refine hK.out _ _ h5.gb (fun hHeld => ?_)
  clear hK
  try simp only [Act.put, List.setIfInBounds_toArray, List.set_cons_zero, List.set_cons_succ]
  refine wpAnyH_takeD (i := 7) (v := .tuple #[v5, .int .i64 0]) (some 26) rfl (by kernel_rfl) (by kernel_rfl) (by kernel_rfl) rfl (fun _ _ _ h => h) (Or.inl ⟨by rfl, by rintro w hs1; first | rfl | (go_simp; done) | (go_simp; rfl)⟩) (by assumption) ?_
  simp only [Act.put, List.setIfInBounds_toArray, List.set_cons_zero, List.set_cons_succ]
  refine wpAnyH_takeD (i := 8) (v := v5) (some 34) rfl (by kernel_rfl) (by kernel_rfl) (by kernel_rfl) rfl (fun _ _ _ h => h) (Or.inl ⟨by rfl, by rintro w hs1; first | rfl | (go_simp; done) | (go_simp; rfl)⟩) (by assumption) ?_
  simp only [Act.put, List.setIfInBounds_toArray, List.set_cons_zero, List.set_cons_succ]
  refine wpAnyH_takeD (i := 9) (v := .int .i64 0) (some 35) rfl (by kernel_rfl) (by kernel_rfl) (by kernel_rfl) rfl (fun _ _ _ h => h) (Or.inl ⟨by rfl, by rintro w hs1; first | rfl | (go_simp; done) | (go_simp; rfl)⟩) (by assumption) ?_
  simp only [Act.put, List.setIfInBounds_toArray, List.set_cons_zero, List.set_cons_succ]
  refine wpAnyH_takeD (i := 10) (v := v5) (some 5) rfl (by kernel_rfl) (by kernel_rfl) (by kernel_rfl) rfl (fun _ _ _ h => h) (Or.inl ⟨by rfl, by rintro w hs1; first | rfl | (go_simp; done) | (go_simp; rfl)⟩) (by assumption) ?_
  simp only [Act.put, List.setIfInBounds_toArray, List.set_cons_zero, List.set_cons_succ]
  refine wpAnyH_takeD (i := 11) (v := .int .i64 0) (some 6) rfl (by kernel_rfl) (by kernel_rfl) (by kernel_rfl) rfl (fun _ _ _ h => h) (Or.inl ⟨by rfl, by rintro w hs1; first | rfl | (go_simp; done) | (go_simp; rfl)⟩) (by assumption) ?_
  simp only [Act.put, List.setIfInBounds_toArray, List.set_cons_zero, List.set_cons_succ]
  refine wpAnyH_done (by kernel_rfl) ?_ _
  have H5 := Lib.hid h5
  have D5 := Lib.hid d5
  have O5 := Lib.hid o5
  clear h3 CW HD cAll cW b34 b4 o4 s5 a5 n5 h5 d5 o5 hHeld
  have hw5 := H5.out
  have c0 : w5.cell? ⟨g, 0, none⟩ = some (.int .i64 2) := heap_cell hw5.gb rfl
  have c1 : w5.cell? ⟨g, 1, none⟩ = some (.int .i64 1) := heap_cell hw5.gb rfl
  have c2 : w5.cell? ⟨g, 2, none⟩ = some (.int .i64 8) := heap_cell hw5.gb rfl
  have cAll2 : Calls Tryz.prog 31 #[.agg #[.int .i64 2, .int .i64 1, .int .i64 8]] w5 (GivesZ w5 (allL 3)) := all13_any 2 1 8 w5 (by decide) (by decide)
  obtain ⟨va5, vc5, hf5⟩ := O5.out.reads.form
  subst hf5
  clear hw5
  go_wp2_with (fail)
  refine cAll2.mono ?_
  rintro e w6 ⟨v6, rfl, o6, b6⟩
  have h6 := H5.out.after b6
  have l6 : Lst w6 S5 v6 _ := Lst.new o6 fun q hq => H5.out.ra.lt q hq
  have cF := stf_any h6.ra 3 hOk.out.1 v6 (allL 3) l6.r l6.c (fun _ q hq => (l6.n q hq).2) (by decide) (by decide)
  rw [hE.out.2.1] at cF
  have H6 := Lib.hid h6
  have D6 := Lib.hid (D5.out.below b6)
  clear c0 c1 c2 cAll2 o6 h6 l6 H5 D5 b6
  go_wp2_with (fail)
  refine cF.mono ?_
  rintro e w7 ⟨v7, rfl, S7, s7, a7, o7, n7⟩
  have h7 := H6.out.stp s7 a7
  have D7 := Lib.hid (D6.out.stp s7)
  obtain ⟨va7, vc7, hf7⟩ := o7.reads.form
  subst hf7
  have cRo := rt_rot h7.ra 0 69 5 1 (in64_iff.2 (by decide))
  have H7 := Lib.hid h7
  clear cF s7 a7 o7 n7 h7 H6 D6
  go_wp2_with (fail)
  refine cRo.mono ?_
  rintro e w8 ⟨rfl, S8, s8, a8⟩
  rw [← hE.out.2.2.2.2.2] at a8
  have h8 := H7.out.stp s8 a8
  have D8 := Lib.hid (D7.out.stp s8)
  have CR : Hid (∀ W v l, Below w8.heap.size w8 W → Lst W S8 v (l.map (.int .i64)) → l.length ≤ 1000000 → Calls Tryz.prog 26 #[.pointer (some ⟨ka, 0, none⟩), .int .i64 3, .agg #[.int .i64 2, .int .i64 1, .int .i64 8], v, .int .i64 1] W (RdDoes W (stR 3 R3 3 2 1 8 l 1))) := Lib.hid fun W v l hW hl hn => str_any (h8.ra.after hW) (h8.after hW).tb (hOk.out.2.2.le (by decide)) 3 2 1 8 1 v l hl.r hl.c hn
  have cAll3 : Calls Tryz.prog 31 #[.agg #[.int .i64 2, .int .i64 1, .int .i64 8]] w8.drew (GivesZ w8.drew (allL 3)) := all13_any 2 1 8 w8.drew (by decide) (by decide)
  clear cRo s8 a8 H7 D7
  go_upto_region 9 with (fail)
  refine wp_region_held_drew (S := fun W => W.heap[g]? = some (.cells #[.int .i64 2, .int .i64 1, .int .i64 8] 23 (0, 0))) (by kernel_rfl) (h8.after (Below.drew_ w8)).gb (fun hHeld => ?_)
  refine wpAnyH_takeD (i := 0) (some 46) rfl (by kernel_rfl) (by kernel_rfl) (by kernel_rfl) rfl (fun _ _ _ h => h) (Or.inl ⟨by rfl, by rintro w hs1; first | rfl | (go_simp; done) | (go_simp; rfl)⟩) (by assumption) ?_
  simp only [Act.put, List.setIfInBounds_toArray, List.set_cons_zero, List.set_cons_succ]
  refine wpAnyH_takeD (i := 1) (v := .agg #[.int .i64 2, .int .i64 1, .int .i64 8]) (some 47) rfl (by kernel_rfl) (by kernel_rfl) (by kernel_rfl) rfl (fun _ _ _ h => h) (yieldsIf_load_run (by rfl) _ rfl rfl (fun _ hs => geo_load hs)) (by assumption) ?_
  simp only [Act.put, List.setIfInBounds_toArray, List.set_cons_zero, List.set_cons_succ]
  refine wpAnyH_takeD (i := 2) (v := .agg #[.int .i64 2, .int .i64 1, .int .i64 8]) (some 48) rfl (by kernel_rfl) (by kernel_rfl) (by kernel_rfl) rfl (fun _ _ _ h => h) (yieldsIf_load_run (by rfl) _ rfl rfl (fun _ hs => geo_load hs)) (by assumption) ?_
  simp only [Act.put, List.setIfInBounds_toArray, List.set_cons_zero, List.set_cons_succ]
  refine wpAnyH_ready (rs := [3]) (by kernel_rfl) (by simp) ?_
  refine AllReadyH.cons rfl (fun K hK => ?_) AllReadyH.nil
  go_simp
  refine cAll3.mono ?_
  rintro e w9 ⟨v9, rfl, o9, b9⟩
  have b89 := (Below.drew_ w8).trans b9
  refine hK.out _ _ (h8.after b89).gb (fun hHeld => ?_)
  clear hK
  try simp only [Act.put, List.setIfInBounds_toArray, List.set_cons_zero, List.set_cons_succ]
  have cR := CR.out w9 v9 (allL 3) b89 (Lst.new o9 (fun q hq => h8.ra.lt q hq)) (by decide)
  rw [hE.out.2.2.1] at cR
  refine wpAnyH_ready (rs := [4]) (by kernel_rfl) (by simp) ?_
  refine AllReadyH.cons rfl (fun K hK => ?_) AllReadyH.nil
  go_simp
  refine cR.mono ?_
  rintro e wa ⟨vd9, vb9, rfl, od9, ob9, ba⟩
  have b8a := b89.trans (ba.mono b89.size)
  refine hK.out _ _ (h8.after b8a).gb (fun hHeld => ?_)
  clear hK
  try simp only [Act.put, List.setIfInBounds_toArray, List.set_cons_zero, List.set_cons_succ]
  refine wpAnyH_takeD (i := 5) (v := .tuple #[vd9, vb9, .int .i64 0]) (some 45) rfl (by kernel_rfl) (by kernel_rfl) (by kernel_rfl) rfl (fun _ _ _ h => h) (Or.inl ⟨by rfl, by rintro w hs1; first | rfl | (go_simp; done) | (go_simp; rfl)⟩) (by assumption) ?_
  simp only [Act.put, List.setIfInBounds_toArray, List.set_cons_zero, List.set_cons_succ]
  refine wpAnyH_takeD (i := 6) (v := vd9) (some 51) rfl (by kernel_rfl) (by kernel_rfl) (by kernel_rfl) rfl (fun _ _ _ h => h) (Or.inl ⟨by rfl, by rintro w hs1; first | rfl | (go_simp; done) | (go_simp; rfl)⟩) (by assumption) ?_
  simp only [Act.put, List.setIfInBounds_toArray, List.set_cons_zero, List.set_cons_succ]
  refine wpAnyH_takeD (i := 7) (v := vb9) (some 52) rfl (by kernel_rfl) (by kernel_rfl) (by kernel_rfl) rfl (fun _ _ _ h => h) (Or.inl ⟨by rfl, by rintro w hs1; first | rfl | (go_simp; done) | (go_simp; rfl)⟩) (by assumption) ?_
  simp only [Act.put, List.setIfInBounds_toArray, List.set_cons_zero, List.set_cons_succ]
  refine wpAnyH_takeD (i := 8) (v := .int .i64 0) (some 53) rfl (by kernel_rfl) (by kernel_rfl) (by kernel_rfl) rfl (fun _ _ _ h => h) (Or.inl ⟨by rfl, by rintro w hs1; first | rfl | (go_simp; done) | (go_simp; rfl)⟩) (by assumption) ?_
  simp only [Act.put, List.setIfInBounds_toArray, List.set_cons_zero, List.set_cons_succ]
  refine wpAnyH_takeD (i := 9) (v := vd9) (some 9) rfl (by kernel_rfl) (by kernel_rfl) (by kernel_rfl) rfl (fun _ _ _ h => h) (Or.inl ⟨by rfl, by rintro w hs1; first | rfl | (go_simp; done) | (go_simp; rfl)⟩) (by assumption) ?_
  simp only [Act.put, List.setIfInBounds_toArray, List.set_cons_zero, List.set_cons_succ]
  refine wpAnyH_takeD (i := 10) (v := vb9) (some 10) rfl (by kernel_rfl) (by kernel_rfl) (by kernel_rfl) rfl (fun _ _ _ h => h) (Or.inl ⟨by rfl, by rintro w hs1; first | rfl | (go_simp; done) | (go_simp; rfl)⟩) (by assumption) ?_
  simp only [Act.put, List.setIfInBounds_toArray, List.set_cons_zero, List.set_cons_succ]
  refine wpAnyH_takeD (i := 11) (v := .int .i64 0) (some 11) rfl (by kernel_rfl) (by kernel_rfl) (by kernel_rfl) rfl (fun _ _ _ h => h) (Or.inl ⟨by rfl, by rintro w hs1; first | rfl | (go_simp; done) | (go_simp; rfl)⟩) (by assumption) ?_
  simp only [Act.put, List.setIfInBounds_toArray, List.set_cons_zero, List.set_cons_succ]
  refine wpAnyH_done (by kernel_rfl) ?_ _
  have ha := h8.after b8a
  have Da := Lib.hid (D8.out.below b8a)
  have c0 : wa.cell? ⟨g, 0, none⟩ = some (.int .i64 2) := heap_cell ha.gb rfl
  have c1 : wa.cell? ⟨g, 1, none⟩ = some (.int .i64 1) := heap_cell ha.gb rfl
  have c2 : wa.cell? ⟨g, 2, none⟩ = some (.int .i64 8) := heap_cell ha.gb rfl
  obtain ⟨xa9, xc9, hfd⟩ := od9.reads.form
  rw [show (tx D).length = D.length from List.length_map ..] at hfd
  obtain ⟨ya9, yc9, hfb⟩ := ob9.reads.form
  subst hfd
  subst hfb
  have bl : Below wa.heap.size wa (wa.alloc (.cells #[.int .i64 0, .int .i64 1] 3)) := (Below.refl _ _).alloc (Nat.le_refl _) _
  have cR2 := CR.out (wa.alloc (.cells #[.int .i64 0, .int .i64 1] 3)) (.slice (some ⟨wa.heap.size, 0, none⟩) 2 2) [0, 1] (b8a.trans (bl.mono b8a.size)) ⟨.inr ⟨wa.heap.size, 0, 2, rfl, by simp, fun i hi => by
    have hn := heap_alloc_new wa (.cells #[.int .i64 0, .int .i64 1] 3)
    match i, hi with
    | 0, _ => exact heap_cell hn rfl
    | 1, _ => exact heap_cell hn rfl⟩, Nat.le_refl _, fun q hq => by
      have e : wa.heap.size = q := by simpa [Value.ownBlock] using hq
      exact ⟨by rw [← e]; simp, fun hS => by have := ha.ra.lt q hS; omega⟩⟩ (by decide)
  rw [hE.out.2.2.2.1] at cR2
  have HAa := Lib.hid ha
  have OD9 := Lib.hid od9
  have OB9 := Lib.hid ob9
  have HBl := Lib.hid bl
  clear h8 CR cAll3 cR b9 b89 ba b8a o9 od9 ob9 hHeld ha D8 bl
  go_wp2_with (fail)
  refine cR2.mono ?_
  rintro e wf ⟨vd2, vb2, he2, od2, ob2, bf⟩
  obtain rfl : e = .returned (.tuple #[vd2, vb2, .int .i64 130]) := he2
  have baf := HBl.out.trans (bf.mono HBl.out.size)
  have hf := HAa.out.after baf
  have cAc := rt_acts hf.ra
  rw [hE.out.2.2.2.2.1] at cAc
  obtain ⟨xa2, xc2, hfd2⟩ := od2.reads.form
  obtain ⟨ya2, yc2, hfb2⟩ := ob2.reads.form
  subst hfd2
  subst hfb2
  have cSm := same_any _ _ D D wf (OD9.out.reads.below baf) (Da.out.below baf).r (by rw [hFD.out.2]; decide) (by rw [hFD.out.2]; decide)
  rw [decide_eq_true rfl] at cSm
  have HFin : Hid (∀ W, Below wf.heap.size wf W → Below w.heap.size w W) := Lib.hid fun W hW => HB1.out.trans ((hf.ra.b.trans (hW.mono hf.ra.b.size)).mono HB1.out.size)
  have HOb := Lib.hid (OB9.out.reads.below baf)
  clear c0 c1 c2 cR2 od2 ob2 bf baf hf HAa OD9 OB9 Da HBl
  go_wp2_with (fail)
  refine cAc.mono ?_
  rintro e wf' ⟨rfl, rfl⟩
  go_wp2_with (fail)
  refine cSm.mono ?_
  rintro e wg ⟨rfl, bg, -⟩
  have bgl : Below wg.heap.size wg (wg.alloc (.cells #[.int .i64 0] 3)) := (Below.refl _ _).alloc (Nat.le_refl _) _
  have bfl := bg.trans (bgl.mono bg.size)
  have rI : Reads (wg.alloc (.cells #[.int .i64 0] 3)) (.slice (some ⟨wg.heap.size, 0, none⟩) 1 1) (([0] : List Int).map (.int .i64)) := .inr ⟨wg.heap.size, 0, 1, rfl, by simp, fun i hi => by
    have hn := heap_alloc_new wg (.cells #[.int .i64 0] 3)
    obtain rfl : i = 0 := by simpa using hi
    exact heap_cell hn rfl⟩
  have rO : Reads (wg.alloc (.cells #[.int .i64 0] 3)) (.slice ya9 1 yc9) (([0] : List Int).map (.int .i64)) := HOb.out.below bfl
  have cI := ints8_any (.slice ya9 1 yc9) (.slice (some ⟨wg.heap.size, 0, none⟩) 1 1) [0] [0] (wg.alloc (.cells #[.int .i64 0] 3)) rO rI (by simp) (by simp)
  rw [show decide (([0] : List Int) = [0]) = true from rfl] at cI
  clear rI rO
  have HBf := Lib.hid bfl
  clear cAc cSm bg bgl bfl HOb
  go_wp2_with (fail)
  refine cI.mono ?_
  rintro e wh ⟨rfl, bh, -⟩
  have hfin := Lib.hid (HFin.out wh (HBf.out.trans (bh.mono HBf.out.size)))
  clear cI bh
  go_wp2_with (fail)
  go_ret
  exact ⟨rfl, hfin.out⟩
end Go.Proofs.YtjgafpkpoppcbaaGreatDoor
