/- journal: JournalTells. -/
import Derived.Test.YtfadglcpapiklaaGreatDoorJrnTN
import Derived.Test.YtfadglcpapiklaaGreatDoorJrnTail
namespace Go.Proofs.YtfadglcpapiklaaGreatDoor
open Go.RowKit
open Rc
set_option linter.unusedVariables false
set_option linter.unusedSimpArgs false
set_option maxRecDepth 100000

/-- A box of a raw record whose geometry may be written. -/
structure RwF (w : World) (p : Nat) (r : Raw) (vs vl : Value) : Prop where
  a : RwB w p r vs vl
  f : ∀ o, w.frozen? ⟨p, o, none⟩ = false
theorem RwF.made (w : World) (r : Raw) (vs vl : Value) (T : TypeId) : RwF (w.alloc (.cells #[.int .i64 r.k, .int .i64 r.m, .int .i64 r.b, .int .i64 r.q, vs, vl] T)) w.heap.size r vs vl :=
  ⟨RwB.made _ _ _ _ _, fun o => frozen_of_row _ _ _ _ _ (heap_alloc_new _ _)⟩
theorem RwF.below {w w' : World} {C p : Nat} {r : Raw} {vs vl : Value} (h : RwF w p r vs vl) (hb : Below C w w') (hp : p < C) : RwF w' p r vs vl :=
  ⟨h.a.below hb hp, fun o => (hb.frozen (p := ⟨p, o, none⟩) hp).trans (h.f o)⟩
theorem RwF.put {w : World} {p : Nat} {r : Raw} {vs vl : Value} (h : RwF w p r vs vl) (K M B : Int) :
    RwB (((w.setCell ⟨p, 0, none⟩ (.int .i64 K)).setCell ⟨p, 1, none⟩ (.int .i64 M)).setCell ⟨p, 2, none⟩ (.int .i64 B)) p { r with k := K, m := M, b := B } vs vl := by
  have g := geo_put h.a.a0 h.a.a1 h.a.a2 h.a.lt K M B
  have o : ∀ o, 3 ≤ o → (((w.setCell ⟨p, 0, none⟩ (.int .i64 K)).setCell ⟨p, 1, none⟩ (.int .i64 M)).setCell ⟨p, 2, none⟩ (.int .i64 B)).cell? ⟨p, o, none⟩ = w.cell? ⟨p, o, none⟩ := fun o ho => by
    rw [World.cell?_setCell_other _ _ _ _ (fun e => by have := congrArg Addr.off e; simp at this; omega), World.cell?_setCell_other _ _ _ _ (fun e => by have := congrArg Addr.off e; simp at this; omega), World.cell?_setCell_other _ _ _ _ (fun e => by have := congrArg Addr.off e; simp at this; omega)]
  exact ⟨g.c0, g.c1, g.c2, (o 3 (by decide)).trans h.a.a3, (o 4 (by decide)).trans h.a.a4, (o 5 (by decide)).trans h.a.a5, g.lt⟩
theorem pk_sumT (c : Int) (k m n : Nat) (hn : n = k + m) (h1 : 1 ≤ n) : ∃ j : Nat, pk11 c ((k : Int) + (m : Int)) = (j : Int) ∧ j < n := by
  obtain ⟨j, e, h⟩ := pk_nat c n h1
  exact ⟨j, by rw [← e, hn, Int.natCast_add], h⟩
/-- The cells of a raw record in a row. -/
theorem row_cells {w W : World} {v : Value} {la : List RwA} (h : ReadsE rwE w v la) (hb : Below w.heap.size w W) {i : Nat} (hi : i < la.length) {r : Raw} {va vb : Value} (he : la[i] = ⟨r, va, vb⟩) (h1 : Reads w va (r.st.map (.int .i64))) (h2 : Reads w vb (r.le.map (.int .i64))) :
    ∃ cb co cap, v = .slice (some ⟨cb, co, none⟩) la.length cap ∧ (W.cell? ⟨cb, co + i * 6, none⟩ = some (.int .i64 r.k) ∧ W.cell? ⟨cb, co + i * 6 + 1, none⟩ = some (.int .i64 r.m) ∧ W.cell? ⟨cb, co + i * 6 + 2, none⟩ = some (.int .i64 r.b) ∧ W.cell? ⟨cb, co + i * 6 + 3, none⟩ = some (.int .i64 r.q) ∧ W.cell? ⟨cb, co + i * 6 + 4, none⟩ = some va ∧ W.cell? ⟨cb, co + i * 6 + 5, none⟩ = some vb) := by
  obtain ⟨pa, cap, rfl, hit⟩ := h.items
  obtain ⟨cb, co, rfl, clt, cc⟩ := hit i hi
  have cell : ∀ j, j < 6 → W.cell? ⟨cb, co + i * 6 + j, none⟩ = (rwE.f la[i])[j]? := fun j hj => by
    rw [Nat.add_assoc]
    exact (hb.cell (p := ⟨cb, co + (i * 6 + j), none⟩) clt).trans (cc j hj)
  rw [he] at cell
  have e1 := cell1_of h1
  have e2 := cell1_of h2
  refine ⟨cb, co, cap, rfl, cell 0 (by omega), cell 1 (by omega), cell 2 (by omega), cell 3 (by omega), ?_, ?_⟩
  · have := cell 4 (by omega)
    rw [show (rwE.f ⟨r, va, vb⟩)[4]? = some (cell1 va) from rfl, e1] at this; exact this
  · have := cell 5 (by omega)
    rw [show (rwE.f ⟨r, va, vb⟩)[5]? = some (cell1 vb) from rfl, e2] at this; exact this
theorem rd_form {w : World} {v : Value} {l : List Int} (h : Reads w v (l.map (.int .i64))) : ∃ a c, v = .slice a l.length c := by
  obtain ⟨a, c, hv⟩ := h.form
  rw [List.length_map] at hv
  exact ⟨a, c, hv⟩
/-- What Fit gives, named. -/
theorem fit_named (t : Raw) (vs vl : Value) (w : World) {k m : Nat} {B q : Int} (h1 : fK11 t.k = (k : Int)) (h2 : fM11 t.m = (m : Int)) (h3 : fB11 t.b = B) (h4 : fitQ t = q) (hok : RawOk t) (hst : Reads w vs (t.st.map (.int .i64))) (hle : Reads w vl (t.le.map (.int .i64))) :
    Calls Tryz.prog 10 #[.agg #[.int .i64 t.k, .int .i64 t.m, .int .i64 t.b, .int .i64 t.q, vs, vl]] w fun e w' => ∃ v l, e = .returned (.tuple #[.agg #[.int .i64 (k : Int), .int .i64 (m : Int), .int .i64 B], .agg #[.int .i64 q, v]]) ∧ SFam w' w.heap.size v l ∧ rightB (k : Int) (m : Int) B q l = true ∧ Below w.heap.size w w' := by
  have c := fit11_any t vs vl w hok hst hle
  unfold Raw.v at c
  refine c.mono ?_
  rintro e w' ⟨v, l, rfl, F, hl, b⟩
  have hr := fit_ok11 t hl
  rw [h1, h2, h3, h4] at hr
  refine ⟨v, l, ?_, F, hr, b⟩
  rw [h1, h2, h3, h4]
theorem RwB.seq {w : World} {p : Nat} {r : Raw} {vs vl : Value} (h : RwB w p r vs vl) (q : Int) : RwB (w.setCell ⟨p, 3, none⟩ (.int .i64 q)) p ⟨r.k, r.m, r.b, q, r.st, r.le⟩ vs vl := by
  have o : ∀ o, o ≠ 3 → (w.setCell ⟨p, 3, none⟩ (.int .i64 q)).cell? ⟨p, o, none⟩ = w.cell? ⟨p, o, none⟩ := fun o ho => World.cell?_setCell_other _ _ _ _ (fun e => ho (by have := congrArg Addr.off e; simp at this; omega))
  exact ⟨(o 0 (by decide)).trans h.a0, (o 1 (by decide)).trans h.a1, (o 2 (by decide)).trans h.a2, World.cell?_setCell_same' _ _ _ (by rw [h.a3]; rfl), (o 4 (by decide)).trans h.a4, (o 5 (by decide)).trans h.a5, by simpa using h.lt⟩
theorem JW.two {w wr : World} {S : Nat → Prop} {ka n g p : Nat} {K M B : Int} {R : Rk} (h : JW w S wr ka n g K M B R) (hp : w.heap.size ≤ p) (hg : g ≠ p) (hS : ¬ S p) (u v : Value) : JW w S ((wr.setCell ⟨p, 0, none⟩ u).setCell ⟨p, 1, none⟩ v) ka n g K M B R := (h.put hp hg hS 0 u).put hp hg hS 1 v
set_option maxHeartbeats 4000000 in
theorem jtells_walk (v0 : Value) (la : List RwA) (v1 : Value) (l1 : List Int) (v2 : Value) (lc : List (Value × List Int)) (slot at0 : Int) (w : World) (R0 : ReadsE rwE w v0 la) (Ok0 : ∀ f ∈ la, RwOk w f) (N0 : la.length ≤ 140737488355328) (Rl1 : Reads w v1 (l1.map (.int .i64))) (Fl1 : ∀ x ∈ l1, -9223372036854775808 ≤ x ∧ x ≤ 9223372036854775807) (Nl1 : l1.length ≤ 9223372036854775806) (C2 : ChR w v2 lc) (N2 : lc.length ≤ 140737488355328) (bs0 : -9223372036854775808 ≤ slot ∧ slot ≤ 9223372036854775807) (ba0 : -9223372036854775808 ≤ at0 ∧ at0 ≤ 9223372036854775807) :
    Calls Tryz.prog 8 #[v0, v1, v2, .int .i64 slot, .int .i64 at0] w fun e w' => e = .returned (.bool true) ∧ Below w.heap.size w w' := by
  obtain ⟨pa1, pc1, hv1⟩ := rd_form Rl1
  subst hv1
  obtain ⟨pa0, pc0, hv0, _⟩ := R0.items
  subst hv0
  have HR0 := Lib.hid (And.intro R0 Ok0)
  have HRl1 := Lib.hid (And.intro Rl1 Fl1)
  have HC2 := Lib.hid C2
  clear R0 Ok0 Rl1 Fl1 C2
  go_enter Tryz.func8, Tryz.ntmps8
  go_wp2_with (fail)
  refine (awake12_any _).mono ?_
  rintro e w1 ⟨rfl, b1⟩
  rcases Nat.eq_zero_or_pos la.length with hz | hpos
  · have hz0 : ((la.length : Int) == 0) = true := by rw [hz]; rfl
    have HB := Lib.hid b1
    clear b1
    go_wp2_with (fail)
    go_ret
    exact ⟨rfl, HB.out⟩
  have hz0 : ((la.length : Int) == 0) = false := by rw [beq_eq_false_iff_ne]; omega
  obtain ⟨f0, hf0⟩ : ∃ f, la[0] = f := ⟨_, rfl⟩
  obtain ⟨r, va0, vb0⟩ := f0
  have hOk0 := HR0.out.2 la[0] (List.getElem_mem hpos)
  rw [hf0] at hOk0
  obtain ⟨hok, hst, hle⟩ := hOk0
  have hok : RawOk r := hok
  have hst : Reads w va0 (r.st.map (.int .i64)) := hst
  have hle : Reads w vb0 (r.le.map (.int .i64)) := hle
  obtain ⟨sa, sc, e1⟩ := rd_form hst
  obtain ⟨sb, sd, e2⟩ := rd_form hle
  subst e1
  subst e2
  have HRow : Hid (∀ W, Below w.heap.size w W → ∃ cb co cap, Value.slice pa0 la.length pc0 = .slice (some ⟨cb, co, none⟩) la.length cap ∧ (W.cell? ⟨cb, co + 0 * 6, none⟩ = some (.int .i64 r.k) ∧ W.cell? ⟨cb, co + 0 * 6 + 1, none⟩ = some (.int .i64 r.m) ∧ W.cell? ⟨cb, co + 0 * 6 + 2, none⟩ = some (.int .i64 r.b) ∧ W.cell? ⟨cb, co + 0 * 6 + 3, none⟩ = some (.int .i64 r.q) ∧ W.cell? ⟨cb, co + 0 * 6 + 4, none⟩ = some (.slice sa r.st.length sc) ∧ W.cell? ⟨cb, co + 0 * 6 + 5, none⟩ = some (.slice sb r.le.length sd))) := Lib.hid fun W hW => row_cells HR0.out.1 hW hpos hf0 hst hle
  obtain ⟨cb, co, cap, hpe, _⟩ := HRow.out w1 b1
  injection hpe with z1 z2 z3
  subst z1
  subst z3
  have HCel : Hid (∀ W, Below w.heap.size w W → W.cell? ⟨cb, co, none⟩ = some (.int .i64 r.k) ∧ W.cell? ⟨cb, co + 1, none⟩ = some (.int .i64 r.m) ∧ W.cell? ⟨cb, co + 2, none⟩ = some (.int .i64 r.b) ∧ W.cell? ⟨cb, co + 3, none⟩ = some (.int .i64 r.q) ∧ W.cell? ⟨cb, co + 4, none⟩ = some (.slice sa r.st.length sc) ∧ W.cell? ⟨cb, co + 5, none⟩ = some (.slice sb r.le.length sd)) := Lib.hid fun W hW => by
    obtain ⟨cb', co', cap', hpe, hc⟩ := HRow.out W hW
    injection hpe with z1 z2 z3
    injection z1 with z1
    injection z1 with z1 z4
    subst z1
    subst z4
    simpa using hc
  obtain ⟨x0, x1, x2, x3, x4, x5⟩ := HCel.out w1 b1
  have cF := fit11_any r _ _ w1 hok (hst.below b1) (hle.below b1)
  unfold Raw.v at cF
  have HB1 := Lib.hid b1
  have HF0 := Lib.hid hf0
  have HOk := Lib.hid (And.intro hok (And.intro hst hle))
  have hp0 : (0 : Int) < (la.length : Int) := by omega
  clear b1 HRow hf0 hok hst hle z2
  go_wp2_with (fail)
  refine cF.mono ?_
  rintro e w2 ⟨v, l, rfl, F2, hl, b2⟩
  clear x0 x1 x2 x3 x4 x5 cF
  obtain ⟨va, vc, ev⟩ := F2.o.isSlice
  subst ev
  obtain ⟨n, sec, k, m, eK, eM, hG0⟩ := gm_fit r
  have HFit : Hid (fK11 r.k = (k : Int) ∧ fM11 r.m = (m : Int)) := Lib.hid ⟨eK, eM⟩
  clear eK eM
  obtain ⟨g, hg⟩ : ∃ g, w2.heap.size = g := ⟨_, rfl⟩
  obtain ⟨hGb, hXb, hbb, hsz⟩ := two_boxes2 w2 #[.int .i64 (fK11 r.k), .int .i64 (fM11 r.m), .int .i64 (fB11 r.b)] #[.int .i64 (fitQ r), .slice va l.length vc] 23 30
  rw [hg] at hGb
  have HBw : Hid (Below w.heap.size w ((w2.alloc (.cells #[.int .i64 (fK11 r.k), .int .i64 (fM11 r.m), .int .i64 (fB11 r.b)] 23)).alloc (.cells #[.int .i64 (fitQ r), .slice va l.length vc] 30))) := Lib.hid (HB1.out.trans ((b2.trans (hbb.mono b2.size)).mono HB1.out.size))
  clear hXb hsz hbb b2 F2 hl HB1
  go_upto_region 5 with (fail)
  generalize (w2.alloc (.cells #[.int .i64 (fK11 r.k), .int .i64 (fM11 r.m), .int .i64 (fB11 r.b)] 23)).alloc (.cells #[.int .i64 (fitQ r), .slice va l.length vc] 30) = w4 at *
  clear hg
  obtain ⟨eK, eM⟩ := HFit.out
  obtain ⟨B, hB⟩ : ∃ B, fB11 r.b = B := ⟨_, rfl⟩
  rw [eK, eM, hB] at hGb
  rw [hB] at hG0
  simp only [eK, eM, hB]
  have HFitB := Lib.hid hB
  clear eK eM hB
  have HG := Lib.hid hG0
  have hkm := hG0.rng
  clear hG0
  have cK := racks12_any HG.out w4
  have c0 : w4.cell? ⟨g, 0, none⟩ = some (.int .i64 (k : Int)) := heap_cell hGb rfl
  have c1 : w4.cell? ⟨g, 1, none⟩ = some (.int .i64 (m : Int)) := heap_cell hGb rfl
  have c2 : w4.cell? ⟨g, 2, none⟩ = some (.int .i64 B) := heap_cell hGb rfl
  go_wp2_with (fail)
  refine cK.mono ?_
  rintro e w5 ⟨S5, ka, wq, Sb, kb, rfl, a5, _, _, _⟩
  have hgl := (Array.getElem?_eq_some_iff.1 hGb).1
  have X5 : JW w4 S5 w5 ka n g (k : Int) (m : Int) B (R00 sec) := ⟨a5, (a5.b.block g hgl).trans hGb, fun z => by have := RA.from a5 g z; omega⟩
  have hn5 : ((n : Nat) : Int) = (k : Int) + (m : Int) := by have := HG.out.n; omega
  have HNK : Hid (((n : Nat) : Int) = (k : Int) + (m : Int) ∧ n = k + m ∧ 2 ≤ n ∧ n ≤ 7 ∧ k ≤ 4 ∧ m ≤ 3) := Lib.hid ⟨hn5, HG.out.n, by omega, by omega, by omega, by omega⟩
  have HX5 := Lib.hid X5
  clear c0 c1 c2 cK hGb a5 hn5 hgl X5
  obtain ⟨c0, c1, c2⟩ := HX5.out.cells
  go_wp2_with (fail)
  clear c0 c1 c2
  go_loopw [17, 18, 19, 20, 21] (fun t _ _ _ _ wr => ∃ (i : Nat) (S : Nat → Prop) (R : Rk), i ≤ n ∧ t = .int .i64 (i : Int) ∧ (JW w4 S wr ka n g (k : Int) (m : Int) B R) ∧ Sld n sec k i 0 R ∧ ROk n R (3 * i)) (fun t _ _ _ _ _ => n - (RowKit.intOf t).toNat)
  case atStart => exact ⟨0, S5, R00 sec, Nat.zero_le _, rfl, HX5.out, sld_00 (by have := HNK.out; omega) (by have := HNK.out; omega), rok_00 n sec⟩
  case round =>
    clear HX5
    obtain ⟨i, S, R, hi, rfl, hX, hS, hro⟩ := hrel
    rename World => wr
    by_cases hlt : i < n
    · have y1 : (i : Int) < (k : Int) + (m : Int) := by have := HNK.out.1; omega
      have HX := Lib.hid (And.intro hX (And.intro hS hro))
      clear hX hS hro
      go_wp2_with (fail)
      go_loopw [18, 19, 20, 21] (fun t _ _ _ wr => ∃ (b : Nat) (S : Nat → Prop) (R : Rk), b ≤ 2 ∧ t = .int .i64 (b : Int) ∧ (JW w4 S wr ka n g (k : Int) (m : Int) B R) ∧ Sld n sec k i b R ∧ ROk n R (3 * i + b)) (fun t _ _ _ _ => 2 - (RowKit.intOf t).toNat)
      case atStart => exact ⟨0, S, R, Nat.zero_le _, rfl, HX.out⟩
      case round =>
        clear HX
        obtain ⟨b, S, R, hb, rfl, hX, hS, hro⟩ := hrel
        rename World => wr
        obtain ⟨c0, c1, c2⟩ := hX.cells
        by_cases hbl : b < 2
        · have z1 : (b : Int) < 2 := by omega
          have cH := rhead_any (k : Int) (m : Int) B (b : Int) wr (by omega)
          rw [head_bay HG.out (by omega), show ((b : Int) % 2).toNat = b by omega] at cH
          have hin := (bay_in HG.out b).1
          have hrg := HG.out.rng
          have cS : Hid (∀ W, Calls Tryz.prog 27 #[.int .i64 9, .int .i64 (i : Int), .int .i64 (bayN k b : Int), .string ⟨#[]⟩] W fun e w' => e = .returned (.tuple #[.string (secS 9 i (bayN k b) ⟨#[]⟩), .int .i64 0]) ∧ Below W.heap.size W w') := Lib.hid fun W => by
            have := rseal_any 9 (i : Int) (bayN k b : Int) ⟨#[]⟩ W (by decide)
            obtain ⟨e1, e2⟩ := seal_ok (i := 9) (l := i) (a := bayN k b) (p := ⟨#[]⟩) ⟨by omega, by omega, by have := HNK.out; omega, by omega, by decide⟩
            unfold Tells2 at this
            rw [show sealL 9 (i : Int) (bayN k b : Int) ⟨#[]⟩ = _ from e2, show sealE 9 (i : Int) (bayN k b : Int) ⟨#[]⟩ = 0 from e1] at this
            exact this
          have HX := Lib.hid (And.intro hX (And.intro hS hro))
          clear hX hS hro hin hrg
          go_wp2_with (fail)
          refine cH.mono ?_
          rintro e wa ⟨rfl, ba⟩
          have HXa := Lib.hid (HX.out.1.after ba)
          have cSa := cS.out wa
          clear cH cS c0 c1 c2 ba
          go_wp2_with (fail)
          refine cSa.mono ?_
          rintro e wb ⟨rfl, bb⟩
          have HXb := Lib.hid (HXa.out.after bb)
          have cW := rt_write HXb.out.ra (i : Int) (bayN k b : Int) (secS 9 i (bayN k b) ⟨#[]⟩) (HX.out.2.2.le (by have := HNK.out; omega))
          clear cSa bb HXa
          go_wp2_with (fail)
          refine cW.mono ?_
          rintro e wc ⟨rfl, S2, s2, a2⟩
          have HXc := Lib.hid (And.intro (HXb.out.stp s2 a2) (And.intro (HX.out.2.1.wr hlt) (HX.out.2.2.wr (i : Int) (bayN k b : Int) (secS 9 i (bayN k b) ⟨#[]⟩))))
          clear cW HXb HX s2 a2
          go_wp2_with (fail)
          go_roundw
          case rel => exact ⟨b + 1, S2, _, by omega, by go_num, HXc.out⟩
          case measure => simp [RowKit.intOf]; omega
        · have hb2 : b = 2 := by omega
          subst hb2
          have z1 : ¬ (((2 : Nat) : Int) < 2) := by omega
          have cF := rt_flush hX.ra (i : Int) (hro.le (by have := HNK.out; omega))
          have HX := Lib.hid (And.intro hX (And.intro hS hro))
          clear hX hS hro c0 c1 c2
          go_wp2_with (fail)
          refine cF.mono ?_
          rintro e wc ⟨rfl, S2, s2, a2⟩
          have HXc := Lib.hid (And.intro (HX.out.1.stp s2 a2) (And.intro (HX.out.2.1.fl hlt) (HX.out.2.2.fl (i : Int))))
          clear cF HX s2 a2
          go_wp2_with (fail)
          go_roundw
          case rel => exact ⟨i + 1, S2, _, by omega, by go_num, HXc.out.1, HXc.out.2.1, HXc.out.2.2.le (by omega)⟩
          case measure => simp [RowKit.intOf]; omega
    · have hin : n = i := by omega
      subst hin
      have y1 : ¬ ((n : Int) < (k : Int) + (m : Int)) := by have := HNK.out.1; omega
      obtain ⟨s0, hse, hsn⟩ := pk_sumT slot k m n HNK.out.2.1 (by have := HNK.out.2.2.1; omega)
      have cP : ∀ W, Calls Tryz.prog 12 #[.int .i64 slot, .int .i64 ((k : Int) + (m : Int))] W fun e w' => e = .returned (.int .i64 (s0 : Int)) ∧ W = w' := fun W => by rw [← hse]; exact pick12_any slot _ W bs0.1 bs0.2 (by omega) (by omega)
      have hgd := hS.good HG.out
      have hrst : Rst n sec k m B R := ⟨hS.u, hgd⟩
      have ba : Below wr.heap.size wr (wr.alloc (.cells #[.int .i64 0, .slice none 0 0] 30)) := (Below.refl _ _).alloc (Nat.le_refl _) _
      have hLb := RBx.made wr 0 (.slice none 0 0) 30
      obtain ⟨lb, hlb⟩ : ∃ b, wr.heap.size = b := ⟨_, rfl⟩
      rw [hlb] at hLb
      have H8 : Hid ((JW w4 S (wr.alloc (.cells #[.int .i64 0, .slice none 0 0] 30)) ka n g (k : Int) (m : Int) B R) ∧ Rst n sec k m B R ∧ ROk n R 21 ∧ ¬ S lb ∧ RBx (wr.alloc (.cells #[.int .i64 0, .slice none 0 0] 30)) lb 0 (.slice none 0 0)) := Lib.hid ⟨hX.after ba, hrst, hro.le (by have := HNK.out; omega), fun z => by have := hX.ra.lt lb z; omega, hLb⟩
      have HLB : Hid (w4.heap.size ≤ lb ∧ g ≠ lb) := Lib.hid ⟨by have := hX.ra.b.size; omega, by have := hX.gl; omega⟩
      clear hse bs0 hgd hrst ba hLb hX hS hro
      go_wp2_with (fail)
      refine (cP _).mono ?_
      rintro e wz ⟨rfl, rfl⟩
      clear cP
      go_upto_block 4 with (fail)
      generalize wr.alloc (.cells #[.int .i64 0, .slice none 0 0] 30) = w8 at *
      clear hlb y1
      go_cut [23, 24, 25, 26, 27, 28, 29] from 88 to 151 (fun _ _ _ _ _ _ _ wx => ∃ (S : Nat → Prop) (R : Rk), (JW w4 S wx ka n g (k : Int) (m : Int) B R) ∧ Rst n sec k m B R ∧ ROk n R 100000 ∧ ((∃ (q3 : Int) (a3 : Option Addr) (c3 : Nat) (l3 : List St), RBx wx lb q3 (.slice a3 l3.length c3) ∧ (q3 = 0 ∨ (1 ≤ q3 ∧ rightB (k : Int) (m : Int) B q3 l3 = true ∧ ∀ j, j < n → Fin12 k q3 l3 j (R.M j) ∧ (R.M j).V = noV)))))
      case first =>
        go_wp2_with (fail)
        go_loopw [23, 24, 25, 26, 27, 28, 29] (fun t _ _ _ _ _ _ wr => ∃ (i : Nat) (S : Nat → Prop) (R : Rk), i ≤ la.length ∧ i ≤ 6 ∧ t = .int .i64 (i : Int) ∧ (JW w4 S wr ka n g (k : Int) (m : Int) B R) ∧ Rst n sec k m B R ∧ ROk n R (21 + 2000 * i) ∧ ¬ S lb ∧ ((∃ (q3 : Int) (a3 : Option Addr) (c3 : Nat) (l3 : List St), RBx wr lb q3 (.slice a3 l3.length c3) ∧ (q3 = 0 ∨ (1 ≤ q3 ∧ rightB (k : Int) (m : Int) B q3 l3 = true ∧ ∀ j, j < n → Fin12 k q3 l3 j (R.M j) ∧ (R.M j).V = noV))))) (fun t _ _ _ _ _ _ _ => la.length - (RowKit.intOf t).toNat)
        case atStart => exact ⟨0, S, R, Nat.zero_le _, by omega, rfl, H8.out.1, H8.out.2.1, H8.out.2.2.1, H8.out.2.2.2.1, 0, none, 0, [], H8.out.2.2.2.2, .inl rfl⟩
        case round =>
          clear H8
          obtain ⟨i, S, R, hi, hi6, rfl, hX, hR, hro, hSl, hL⟩ := hrel
          rename World => wr
          by_cases hlt : i < la.length ∧ i < 6
          · obtain ⟨hlt, h6⟩ := hlt
            have y1 : (i : Int) < (la.length : Int) := by omega
            have y2 : (i : Int) < 6 := by omega
            obtain ⟨f1, hf1⟩ : ∃ f, la[i] = f := ⟨_, rfl⟩
            obtain ⟨ri, vai, vbi⟩ := f1
            have hOki := HR0.out.2 la[i] (List.getElem_mem hlt)
            rw [hf1] at hOki
            obtain ⟨oki, sti, lei⟩ := hOki
            have oki : RawOk ri := oki
            have sti : Reads w vai (ri.st.map (.int .i64)) := sti
            have lei : Reads w vbi (ri.le.map (.int .i64)) := lei
            obtain ⟨ta, tc, e1⟩ := rd_form sti
            obtain ⟨tb, td, e2⟩ := rd_form lei
            subst e1
            subst e2
            have hWr : Below w.heap.size w wr := HBw.out.trans (hX.ra.b.mono HBw.out.size)
            obtain ⟨cb', co', cap', hpe, x0, x1, x2, x3, x4, x5⟩ := row_cells HR0.out.1 hWr hlt hf1 sti lei
            injection hpe with z1 z2 z3
            injection z1 with z1
            injection z1 with z1 z4
            subst z1
            subst z4
            have D0 := RwF.made wr ri (.slice ta ri.st.length tc) (.slice tb ri.le.length td) 26
            obtain ⟨xb, hxb⟩ : ∃ b, wr.heap.size = b := ⟨_, rfl⟩
            rw [hxb] at D0
            have bx : Below xb wr (wr.alloc (.cells #[.int .i64 ri.k, .int .i64 ri.m, .int .i64 ri.b, .int .i64 ri.q, .slice ta ri.st.length tc, .slice tb ri.le.length td] 26)) := by rw [← hxb]; exact (Below.refl _ _).alloc (Nat.le_refl _) _
            have HXb : Hid (wr.heap.size = xb) := Lib.hid hxb
            have HX := Lib.hid (And.intro hX (And.intro hR (And.intro hro (And.intro hSl hL))))
            have HOki := Lib.hid (And.intro oki (And.intro sti lei))
            have HWr := Lib.hid hWr
            clear hX hR hro hSl hL oki sti lei hf1 z2 z3 hWr
            go_upto_region 25 with (fail)
            generalize wr.alloc (.cells #[.int .i64 ri.k, .int .i64 ri.m, .int .i64 ri.b, .int .i64 ri.q, .slice ta ri.st.length tc, .slice tb ri.le.length td] 26) = wa at *
            clear x0 x1 x2 x3 x4 x5 hxb
            obtain ⟨z0, z1, z2, _⟩ := HCel.out wa (HWr.out.trans (bx.mono (by have := HXb.out; have := HWr.out.size; omega)))
            have e3 := D0.a.a0
            have e4 := D0.a.a1
            have e5 := D0.a.a2
            have f0 := D0.f 0
            have f1 := D0.f 1
            have f2 := D0.f 2
            have D1 := D0.put r.k r.m r.b
            have f3 : (((wa.setCell ⟨xb, 0, none⟩ (.int .i64 r.k)).setCell ⟨xb, 1, none⟩ (.int .i64 r.m)).setCell ⟨xb, 2, none⟩ (.int .i64 r.b)).frozen? ⟨xb, 3, none⟩ = false := by
              have := D0.f 3
              simpa using this
            have bx3 : Below xb wr (((wa.setCell ⟨xb, 0, none⟩ (.int .i64 r.k)).setCell ⟨xb, 1, none⟩ (.int .i64 r.m)).setCell ⟨xb, 2, none⟩ (.int .i64 r.b)) := ((bx.setCell (p := ⟨xb, 0, none⟩) (Nat.le_refl _) (.int .i64 r.k)).setCell (p := ⟨xb, 1, none⟩) (Nat.le_refl _) (.int .i64 r.m)).setCell (p := ⟨xb, 2, none⟩) (Nat.le_refl _) (.int .i64 r.b)
            go_upto_region 26 with (fail)
            clear e3 e4 e5 f0 f1 f2 z0 z1 z2 D0 bx
            generalize ((wa.setCell ⟨xb, 0, none⟩ (.int .i64 r.k)).setCell ⟨xb, 1, none⟩ (.int .i64 r.m)).setCell ⟨xb, 2, none⟩ (.int .i64 r.b) = wb at *
            have e3 : wb.cell? ⟨xb, 3, none⟩ = some (.int .i64 ri.q) := D1.a3
            have D2 : RwB (wb.setCell ⟨xb, 3, none⟩ (.int .i64 (i : Int))) xb ⟨r.k, r.m, r.b, (i : Int), ri.st, ri.le⟩ (.slice ta ri.st.length tc) (.slice tb ri.le.length td) := D1.seq (i : Int)
            have bx4 : Below xb wr (wb.setCell ⟨xb, 3, none⟩ (.int .i64 (i : Int))) := bx3.setCell (p := ⟨xb, 3, none⟩) (Nat.le_refl _) _
            go_upto_region 27 with (fail)
            clear e3 f3 D1 bx3
            generalize wb.setCell ⟨xb, 3, none⟩ (.int .i64 (i : Int)) = wc at *
            have e0 : wc.cell? ⟨xb, 0, none⟩ = some (.int .i64 r.k) := D2.a0
            have e1 : wc.cell? ⟨xb, 1, none⟩ = some (.int .i64 r.m) := D2.a1
            have e2 : wc.cell? ⟨xb, 2, none⟩ = some (.int .i64 r.b) := D2.a2
            have e3 : wc.cell? ⟨xb, 3, none⟩ = some (.int .i64 (i : Int)) := D2.a3
            have e4 : wc.cell? ⟨xb, 4, none⟩ = some (.slice ta ri.st.length tc) := D2.a4
            have e5 : wc.cell? ⟨xb, 5, none⟩ = some (.slice tb ri.le.length td) := D2.a5
            have bxc : Below wr.heap.size wr wc := by rw [HXb.out]; exact bx4
            have hWc : Below w.heap.size w wc := HWr.out.trans (bxc.mono HWr.out.size)
            obtain ⟨qi, hqi⟩ : ∃ q, fitQ (⟨r.k, r.m, r.b, (i : Int), ri.st, ri.le⟩ : Raw) = q := ⟨_, rfl⟩
            have cF : Calls Tryz.prog 10 #[.agg #[.int .i64 r.k, .int .i64 r.m, .int .i64 r.b, .int .i64 (i : Int), .slice ta ri.st.length tc, .slice tb ri.le.length td]] wc fun e w' => ∃ v l, e = .returned (.tuple #[.agg #[.int .i64 (k : Int), .int .i64 (m : Int), .int .i64 B], .agg #[.int .i64 qi, v]]) ∧ SFam w' wc.heap.size v l ∧ rightB (k : Int) (m : Int) B qi l = true ∧ Below wc.heap.size wc w' :=
              fit_named (⟨r.k, r.m, r.b, (i : Int), ri.st, ri.le⟩ : Raw) _ _ wc HFit.out.1 HFit.out.2 HFitB.out hqi ⟨HOk.out.1.k, HOk.out.1.m, HOk.out.1.b, ⟨by show -9223372036854775808 ≤ (i : Int); omega, by show (i : Int) ≤ 9223372036854775807; omega⟩, HOki.out.1.st, HOki.out.1.le, HOki.out.1.sn, HOki.out.1.ln⟩ (HOki.out.2.1.below hWc) (HOki.out.2.2.below hWc)
            have Hbxc := Lib.hid bxc
            clear hqi D2 bx4 bxc hWc HOki
            go_wp2_with (fail)
            refine cF.mono ?_
            rintro e wd ⟨v, li, rfl, Fi, hRi, bd⟩
            obtain ⟨vi, ci, ev⟩ := Fi.o.isSlice
            subst ev
            clear e0 e1 e2 e3 e4 e5 cF
            obtain ⟨hGi, hXi, hbi, hszi⟩ := two_boxes2 wd #[.int .i64 (k : Int), .int .i64 (m : Int), .int .i64 B] #[.int .i64 qi, .slice vi li.length ci] 23 30
            obtain ⟨gb, hgb⟩ : ∃ b, wd.heap.size = b := ⟨_, rfl⟩
            have hfall : Below wr.heap.size wr ((wd.alloc (.cells #[.int .i64 (k : Int), .int .i64 (m : Int), .int .i64 B] 23)).alloc (.cells #[.int .i64 qi, .slice vi li.length ci] 30)) := Hbxc.out.trans ((bd.trans (hbi.mono bd.size)).mono Hbxc.out.size)
            have hqr := right_g hRi
            have hlni : li.length ≤ 1000 := by
              have := (body_len HG.out hRi).2.1
              have h2 := HG.out.rng
              have h3 := (body_len HG.out hRi).1
              have h4 : li.length * 1 ≤ li.length * k := Nat.mul_le_mul_left _ h2.1
              omega
            have hXi2 : RW w4 S ((wd.alloc (.cells #[.int .i64 (k : Int), .int .i64 (m : Int), .int .i64 B] 23)).alloc (.cells #[.int .i64 qi, .slice vi li.length ci] 30)) ka n g (gb + 1) (k : Int) (m : Int) B qi (.slice vi li.length ci) li R := ⟨HX.out.1.after hfall, RBx.row (by rw [← hgb]; exact hXi), fun z => by have := HX.out.1.ra.lt _ z; have := Hbxc.out.size; have := bd.size; omega, (RLs.of Fi (right_reads hRi) (fun q hq => by have := HX.out.1.ra.lt q hq; have := Hbxc.out.size; omega)).after hbi⟩
            obtain ⟨q3, a3, c3, l3, hLB, _⟩ := HX.out.2.2.2.2
            have HY : Hid ((RW w4 S ((wd.alloc (.cells #[.int .i64 (k : Int), .int .i64 (m : Int), .int .i64 B] 23)).alloc (.cells #[.int .i64 qi, .slice vi li.length ci] 30)) ka n g (gb + 1) (k : Int) (m : Int) B qi (.slice vi li.length ci) li R) ∧ Good n sec k m B R ∧ ROk n R (21 + 2000 * i) ∧ ¬ S lb ∧ RBx ((wd.alloc (.cells #[.int .i64 (k : Int), .int .i64 (m : Int), .int .i64 B] 23)).alloc (.cells #[.int .i64 qi, .slice vi li.length ci] 30)) lb q3 (.slice a3 l3.length c3)) := Lib.hid ⟨hXi2, HX.out.2.1.g, HX.out.2.2.1, HX.out.2.2.2.1, hLB.heap (hfall.block lb hLB.lt) hfall.size⟩
            have HRi := Lib.hid (And.intro hRi (And.intro hqr.2 hlni))
            clear hGi hXi hbi hszi hfall hqr hlni hXi2 hLB Fi bd hRi HX Hbxc HXb
            go_upto_region 28 with (fail)
            clear hgb
            generalize (wd.alloc (.cells #[.int .i64 (k : Int), .int .i64 (m : Int), .int .i64 B] 23)).alloc (.cells #[.int .i64 qi, .slice vi li.length ci] 30) = we at *
            go_upto_if 117 with (fail)
            go_cut [117] from 118 to 125 (fun _ wx => ∃ (S : Nat → Prop) (R : Rk), (RW w4 S wx ka n g (gb + 1) (k : Int) (m : Int) B qi (.slice vi li.length ci) li R) ∧ Good n sec k m B R ∧ ROk n R (21 + 2000 * i) ∧ ¬ S lb ∧ RBx wx lb q3 (.slice a3 l3.length c3))
            case first =>
              by_cases hl1 : i < l1.length
              · have y3 : (i : Int) < (l1.length : Int) := by omega
                obtain ⟨va', vc', hv', hit⟩ := Reads.items HRl1.out.1
                obtain ⟨rfl, rfl⟩ : pa1 = va' ∧ pc1 = vc' := by injection hv' with z1 z2 z3; exact ⟨z1, z3⟩
                clear hv'
                obtain ⟨ab, ao, rfl, hab, hc0⟩ := hit i hl1
                obtain ⟨x, hx⟩ : ∃ x, l1[i] = x := ⟨_, rfl⟩
                have hxr := HRl1.out.2 l1[i] (List.getElem_mem hl1)
                rw [hx] at hc0 hxr
                have cx : we.cell? ⟨ab, ao + i, none⟩ = some (.int .i64 x) := ((HBw.out.trans (HY.out.1.jw.ra.b.mono HBw.out.size)).cell (p := ⟨ab, ao + i, none⟩) hab).trans hc0
                obtain ⟨y, hy, hy2⟩ := pk_nat x 100 (by omega)
                have cP : ∀ W, Calls Tryz.prog 12 #[.int .i64 x, .int .i64 100] W fun e w' => e = .returned (.int .i64 (y : Int)) ∧ W = w' := fun W => by rw [← hy]; exact pick12_any x _ W hxr.1 hxr.2 (by omega) (by omega)
                have cA := rt_arm HY.out.1.jw.ra (1 + (y : Int))
                have HZ := Lib.hid (And.intro (good_arm HY.out.2.1 (1 + (y : Int))) (rok_ar HY.out.2.2.1 (1 + (y : Int))))
                clear hit hab hc0 hx hxr hy hl1
                go_wp2_with (fail)
                refine (cP _).mono ?_
                rintro e wz ⟨rfl, rfl⟩
                clear cP cx
                go_wp2_with (fail)
                refine cA.mono ?_
                rintro e wf ⟨rfl, S2, s2, a2⟩
                have HF := Lib.hid (And.intro (HY.out.1.stp s2 a2) (And.intro HZ.out.1 (And.intro HZ.out.2 (And.intro (show ¬ S2 lb from fun z => by
                  rcases s2.grow lb z with q | q
                  · exact HY.out.2.2.2.1 q
                  · have := HY.out.2.2.2.2.lt; omega) (HY.out.2.2.2.2.heap (s2.oth lb HY.out.2.2.2.2.lt HY.out.2.2.2.1) s2.b0.size)))))
                clear cA s2 a2 HY HZ
                go_wp2_with (fail)
                go_meet
                exact ⟨S2, _, HF.out⟩
              · have y3 : ¬ ((i : Int) < (l1.length : Int)) := by omega
                clear hl1
                go_wp2_with (fail)
                go_meet
                exact ⟨S, R, HY.out⟩
            case rest =>
            obtain ⟨S, R, X, hGd, hro, hSl, hLB⟩ := hcut
            rename World => wx
            clear HY
            obtain ⟨R', pe, hpu, hg', hpe⟩ := put_two HG.out HRi.out.1 hGd
            have hro' := put_ok (id := 9) (K := (k : Int)) (M := (m : Int)) (B := B) (q := qi) (ss := li) (l := allL n) hro
            rw [hpu, allL_len] at hro'
            have HPu : Hid (∀ W u, Below wx.heap.size wx W → LsN W S u (allL n) → capOk u → Calls Tryz.prog 13 #[.pointer (some ⟨ka, 0, none⟩), .int .i64 9, .agg #[.int .i64 (k : Int), .int .i64 (m : Int), .int .i64 B], u, .agg #[.int .i64 qi, .slice vi li.length ci]] W (EDoes w4 S W ka n (R', [], pe))) := Lib.hid fun W u hW hu hcap => by
              have hXW := X.after hW
              have := put_any hXW.jw.ra (21 + 2000 * i) hro 9 (k : Int) (m : Int) B qi u (.slice vi li.length ci) (allL n) li hu hcap (by rw [allL_len]; have := HNK.out; omega) (by omega) hXW.rl.r (by have := HRi.out.2.2; omega) (by have := HRi.out.2.1; omega)
              rw [hpu] at this
              exact this
            have HAll : Hid (∀ W, Calls Tryz.prog 14 #[.agg #[.int .i64 (k : Int), .int .i64 (m : Int), .int .i64 B]] W (GivesZ W (allL n))) := Lib.hid fun W => by
              have := all12_any k m B W (by have := HNK.out; omega) (by have := HNK.out; omega)
              rw [← HG.out.n] at this
              exact this
            have HP := Lib.hid (And.intro hg' (And.intro (hro'.le (show 21 + 2000 * i + 256 * n ≤ 21 + 2000 * (i + 1) by have := HNK.out; omega)) hpe))
            have HLx := Lib.hid (And.intro hSl hLB)
            clear hpu hg' hpe hGd hro hro' hSl hLB
            go_upto_region 30 with (fail)
            refine wp_region_held_drew (S := fun W => W.heap[g]? = some (.cells #[.int .i64 (k : Int), .int .i64 (m : Int), .int .i64 B] 23 (0, 0)) ∧ W.cell? ⟨gb + 1, 0, none⟩ = some (.int .i64 qi) ∧ W.cell? ⟨gb + 1, 1, none⟩ = some (.slice vi li.length ci)) (by kernel_rfl) (X.after (Below.drew_ wx)).bx (fun hHeld => ?_)
            refine wpAnyH_takeD (i := 0) (some 127) rfl (by kernel_rfl) (by kernel_rfl) (by kernel_rfl) rfl (fun _ _ _ h => h) (Or.inl ⟨by rfl, by rintro w hs1; first | rfl | (go_simp; done) | (go_simp; rfl)⟩) (by assumption) ?_
            simp only [Act.put, List.setIfInBounds_toArray, List.set_cons_zero, List.set_cons_succ]
            refine wpAnyH_takeD (i := 1) (v := .agg #[.int .i64 (k : Int), .int .i64 (m : Int), .int .i64 B]) (some 128) rfl (by kernel_rfl) (by kernel_rfl) (by kernel_rfl) rfl (fun _ _ _ h => h) (yieldsIf_load_run (by rfl) _ rfl rfl (fun _ hs => geo_load hs.1)) (by assumption) ?_
            simp only [Act.put, List.setIfInBounds_toArray, List.set_cons_zero, List.set_cons_succ]
            refine wpAnyH_takeD (i := 2) (v := .agg #[.int .i64 (k : Int), .int .i64 (m : Int), .int .i64 B]) (some 129) rfl (by kernel_rfl) (by kernel_rfl) (by kernel_rfl) rfl (fun _ _ _ h => h) (yieldsIf_load_run (by rfl) _ rfl rfl (fun _ hs => geo_load hs.1)) (by assumption) ?_
            simp only [Act.put, List.setIfInBounds_toArray, List.set_cons_zero, List.set_cons_succ]
            refine wpAnyH_takeD (i := 4) (v := .agg #[.int .i64 qi, (.slice vi li.length ci)]) (some 131) rfl (by kernel_rfl) (by kernel_rfl) (by kernel_rfl) rfl (fun _ _ _ h => h) (yieldsIf_load_run (by rfl) _ rfl rfl (fun _ hs => rec_load hs.2.1 hs.2.2)) (by assumption) ?_
            simp only [Act.put, List.setIfInBounds_toArray, List.set_cons_zero, List.set_cons_succ]
            refine wpAnyH_ready (rs := [3]) (by kernel_rfl) (by simp) ?_
            refine AllReadyH.cons rfl (fun K hK => ?_) AllReadyH.nil
            go_simp
            refine (HAll.out wx.drew).mono ?_
            rintro e z6 ⟨va6, rfl, oa6, ba6⟩
            have bb6 := (Below.drew_ wx).trans ba6
            have G6 := X.after bb6
            have cPu := HPu.out z6 va6 bb6 (LsN.own oa6 fun q hq => X.jw.ra.lt q hq) oa6.capOk
            clear oa6
            refine hK.out _ _ G6.bx (fun hHeld => ?_)
            clear hK
            try simp only [Act.put, List.setIfInBounds_toArray, List.set_cons_zero, List.set_cons_succ]
            refine wpAnyH_ready (rs := [5]) (by kernel_rfl) (by simp) ?_
            refine AllReadyH.cons rfl (fun K hK => ?_) AllReadyH.nil
            go_simp
            refine cPu.mono ?_
            rintro e wf ⟨vw7, rfl, S7, s7, a7, ow7, nw7⟩
            obtain ⟨xw, yw, hfw0⟩ := ow7.reads.form
            have hfw : vw7 = .slice xw 0 yw := hfw0
            clear hfw0
            subst hfw
            have X7 := G6.stp s7 a7
            refine hK.out _ _ X7.bx (fun hHeld => ?_)
            clear hK
            try simp only [Act.put, List.setIfInBounds_toArray, List.set_cons_zero, List.set_cons_succ]
            refine wpAnyH_takeD (i := 6) (v := .tuple #[.slice xw 0 yw, .int .i64 pe]) (some 126) rfl (by kernel_rfl) (by kernel_rfl) (by kernel_rfl) rfl (fun _ _ _ h => h) (Or.inl ⟨by rfl, by rintro w hs1; first | rfl | (go_simp; done) | (go_simp; rfl)⟩) (by assumption) ?_
            simp only [Act.put, List.setIfInBounds_toArray, List.set_cons_zero, List.set_cons_succ]
            refine wpAnyH_takeD (i := 7) (v := .slice xw 0 yw) (some 133) rfl (by kernel_rfl) (by kernel_rfl) (by kernel_rfl) rfl (fun _ _ _ h => h) (Or.inl ⟨by rfl, by rintro w hs1; first | rfl | (go_simp; done) | (go_simp; rfl)⟩) (by assumption) ?_
            simp only [Act.put, List.setIfInBounds_toArray, List.set_cons_zero, List.set_cons_succ]
            refine wpAnyH_takeD (i := 8) (v := .int .i64 pe) (some 134) rfl (by kernel_rfl) (by kernel_rfl) (by kernel_rfl) rfl (fun _ _ _ h => h) (Or.inl ⟨by rfl, by rintro w hs1; first | rfl | (go_simp; done) | (go_simp; rfl)⟩) (by assumption) ?_
            simp only [Act.put, List.setIfInBounds_toArray, List.set_cons_zero, List.set_cons_succ]
            refine wpAnyH_takeD (i := 9) (v := .slice xw 0 yw) (some 27) rfl (by kernel_rfl) (by kernel_rfl) (by kernel_rfl) rfl (fun _ _ _ h => h) (Or.inl ⟨by rfl, by rintro w hs1; first | rfl | (go_simp; done) | (go_simp; rfl)⟩) (by assumption) ?_
            simp only [Act.put, List.setIfInBounds_toArray, List.set_cons_zero, List.set_cons_succ]
            refine wpAnyH_takeD (i := 10) (v := .int .i64 pe) (some 28) rfl (by kernel_rfl) (by kernel_rfl) (by kernel_rfl) rfl (fun _ _ _ h => h) (Or.inl ⟨by rfl, by rintro w hs1; first | rfl | (go_simp; done) | (go_simp; rfl)⟩) (by assumption) ?_
            simp only [Act.put, List.setIfInBounds_toArray, List.set_cons_zero, List.set_cons_succ]
            refine wpAnyH_done (by kernel_rfl) ?_ _
            have st7 := (Stp.quiet bb6).trans s7
            clear hHeld cPu ow7 nw7 bb6 ba6 G6 s7 a7
            have HX7 : Hid ((JW w4 S7 wf ka n g (k : Int) (m : Int) B R') ∧ ¬ S7 lb ∧ RBx wf lb q3 (.slice a3 l3.length c3)) := Lib.hid ⟨X7.jw, fun z => by
              rcases st7.grow lb z with q | q
              · exact HLx.out.1 q
              · have := HLx.out.2.lt; omega, HLx.out.2.heap (st7.oth lb HLx.out.2.lt HLx.out.1) st7.b0.size⟩
            have r0 := X7.rb.c0
            have r1 := X7.rb.c1
            have hSlb : ¬ S7 lb := HX7.out.2.1
            have T2 := fun u v => HX7.out.1.two HLB.out.1 HLB.out.2 HX7.out.2.1 u v
            have HT2 := Lib.hid T2
            have HRB := Lib.hid (fun q v => HX7.out.2.2.put q v)
            have bc0 := HX7.out.2.2.c0
            have bc1 := HX7.out.2.2.c1
            have bf0 := HX7.out.2.2.f0
            have bf1 := HX7.out.2.2.f1
            clear X7 st7 X HLx T2 hSlb
            go_upto_if 136 with (fail)
            go_cut [136] from 137 to 138 (fun _ wx => (JW w4 S7 wx ka n g (k : Int) (m : Int) B R') ∧ ((∃ (q3 : Int) (a3 : Option Addr) (c3 : Nat) (l3 : List St), RBx wx lb q3 (.slice a3 l3.length c3) ∧ (q3 = 0 ∨ (1 ≤ q3 ∧ rightB (k : Int) (m : Int) B q3 l3 = true ∧ ∀ j, j < n → Fin12 k q3 l3 j (R'.M j))))))
            case first =>
              rcases HP.out.2.2 with h90 | ⟨h0, hfin⟩
              · have t1 : (pe == 0) = false := by rw [h90]; rfl
                have HF := Lib.hid (And.intro (HT2.out (.int .i64 0) (.slice none 0 0)) (HRB.out 0 (.slice none 0 0)))
                clear h90 r0 r1
                go_wp2_with (fail)
                go_meet
                exact ⟨HF.out.1, 0, none, 0, [], HF.out.2, .inl rfl⟩
              · have t1 : (pe == 0) = true := by rw [h0]; rfl
                have HF := Lib.hid (And.intro (HT2.out (.int .i64 qi) (.slice vi li.length ci)) (And.intro (HRB.out qi (.slice vi li.length ci)) hfin))
                clear h0 hfin
                go_wp2_with (fail)
                go_meet
                exact ⟨HF.out.1, qi, vi, ci, li, HF.out.2.1, .inr ⟨HRi.out.2.1.1, HRi.out.1, HF.out.2.2⟩⟩
            case rest =>
            obtain ⟨hX9, q4, a4, c4, l4, hL9, hcase9⟩ := hcut
            rename World => wg
            clear r0 r1 bc0 bc1 bf0 bf1 HT2 HRB
            have hWg : Below w.heap.size w wg := HBw.out.trans (hX9.ra.b.mono HBw.out.size)
            have cRe := rt_restart hX9.ra v2 lc (HC2.out.below hWg) (HC2.out.old (fun x hx => by have := hX9.ra.from x hx; have := HBw.out.size; omega)) N2 (HP.out.2.1.le (by omega))
            obtain ⟨hRst, hCr⟩ := rst_re (by have := HNK.out; omega) (by have := HNK.out; omega) HP.out.1 lc
            have HZ : Hid (JW w4 S7 wg ka n g (k : Int) (m : Int) B R' ∧ ¬ S7 lb ∧ Rst n sec k m B (reR R' lc) ∧ ROk n (reR R' lc) (21 + 2000 * (i + 1)) ∧ RBx wg lb q4 (.slice a4 l4.length c4) ∧ (q4 = 0 ∨ (1 ≤ q4 ∧ rightB (k : Int) (m : Int) B q4 l4 = true ∧ ∀ j, j < n → Fin12 k q4 l4 j ((reR R' lc).M j) ∧ ((reR R' lc).M j).V = noV))) := Lib.hid ⟨hX9, HX7.out.2.1, hRst, rok_re HP.out.2.1 lc, hL9, hcase9.elim .inl (fun z => .inr ⟨z.1, z.2.1, fun j hj => ⟨by rw [hCr j]; exact (z.2.2 j hj).crash _, by rw [hCr j]; rfl⟩⟩)⟩
            clear hX9 hL9 hcase9 hRst hCr HX7 HP hWg
            go_wp2_with (fail)
            refine cRe.mono ?_
            rintro e wh ⟨rfl, S8, s8, a8⟩
            have HQ : Hid (JW w4 S8 wh ka n g (k : Int) (m : Int) B (reR R' lc) ∧ ¬ S8 lb ∧ Rst n sec k m B (reR R' lc) ∧ ROk n (reR R' lc) (21 + 2000 * (i + 1)) ∧ RBx wh lb q4 (.slice a4 l4.length c4) ∧ (q4 = 0 ∨ (1 ≤ q4 ∧ rightB (k : Int) (m : Int) B q4 l4 = true ∧ ∀ j, j < n → Fin12 k q4 l4 j ((reR R' lc).M j) ∧ ((reR R' lc).M j).V = noV))) := Lib.hid ⟨HZ.out.1.stp s8 a8, fun z => by
              rcases s8.grow lb z with q | q
              · exact HZ.out.2.1 q
              · have := HZ.out.2.2.2.2.1.lt; omega, HZ.out.2.2.1, HZ.out.2.2.2.1, HZ.out.2.2.2.2.1.heap (s8.oth lb HZ.out.2.2.2.2.1.lt HZ.out.2.1) s8.b0.size, HZ.out.2.2.2.2.2⟩
            clear cRe s8 a8 HZ
            go_wp2_with (fail)
            go_loopw [29] (fun t wy => ∃ j : Nat, j ≤ n ∧ t = .int .i64 (j : Int) ∧ Below wh.heap.size wh wy) (fun t _ => n - (RowKit.intOf t).toNat)
            case atStart => exact ⟨0, Nat.zero_le _, rfl, Below.refl _ _⟩
            case round =>
              obtain ⟨j, hj, rfl, hB⟩ := hrel
              rename World => wy
              have hXy := HQ.out.1.after hB
              by_cases hjl : j < n
              · have z1 : (j : Int) < (k : Int) + (m : Int) := by have := HNK.out.1; omega
                obtain ⟨c0, c1, c2⟩ := hXy.cells
                have cT := tells_any hXy.ra (HQ.out.2.2.2.1.le (by omega)) 9 (k : Int) (m : Int) B (j : Int)
                rw [qt_tells HG.out HQ.out.2.2.1.u hjl (HQ.out.2.2.1.g j hjl)] at cT
                have HB := Lib.hid hB
                clear hXy hB
                go_wp2_with (fail)
                refine cT.mono ?_
                rintro e wz ⟨rfl, bz⟩
                have HBz := Lib.hid (HB.out.trans (bz.mono HB.out.size))
                clear cT bz HB c0 c1 c2
                go_wp2_with (fail)
                go_roundw
                case rel => exact ⟨j + 1, by omega, by go_num, HBz.out⟩
                case measure => simp [RowKit.intOf]; omega
              · have z1 : ¬ ((j : Int) < (k : Int) + (m : Int)) := by have := HNK.out.1; omega
                have HF := Lib.hid (And.intro hXy (And.intro HQ.out.2.2.1 (And.intro HQ.out.2.2.2.1 (And.intro HQ.out.2.1 (And.intro (HQ.out.2.2.2.2.1.heap (hB.block lb HQ.out.2.2.2.2.1.lt) hB.size) HQ.out.2.2.2.2.2)))))
                clear hXy hB HQ
                go_wp2_with (fail)
                go_roundw
                case rel => exact ⟨i + 1, S8, reR R' lc, by omega, by omega, by go_num, HF.out.1, HF.out.2.1, HF.out.2.2.1, HF.out.2.2.2.1, q4, a4, c4, l4, HF.out.2.2.2.2⟩
                case measure => simp [RowKit.intOf]; omega
          · have HF : Hid ((JW w4 S wr ka n g (k : Int) (m : Int) B R) ∧ Rst n sec k m B R ∧ ROk n R 100000 ∧ ((∃ (q3 : Int) (a3 : Option Addr) (c3 : Nat) (l3 : List St), RBx wr lb q3 (.slice a3 l3.length c3) ∧ (q3 = 0 ∨ (1 ≤ q3 ∧ rightB (k : Int) (m : Int) B q3 l3 = true ∧ ∀ j, j < n → Fin12 k q3 l3 j (R.M j) ∧ (R.M j).V = noV))))) := Lib.hid ⟨hX, hR, hro.le (by omega), hL⟩
            clear hX hR hro hSl hL
            by_cases hw : i < la.length
            · have y1 : (i : Int) < (la.length : Int) := by omega
              have y2 : ¬ ((i : Int) < 6) := by omega
              clear hw hlt
              go_wp2_with (fail)
              go_meet
              exact ⟨S, R, HF.out⟩
            · have y1 : ¬ ((i : Int) < (la.length : Int)) := by omega
              clear hw hlt
              go_wp2_with (fail)
              go_meet
              exact ⟨S, R, HF.out⟩
      case rest =>
      obtain ⟨S, R, hX, hR, hro, q3, a3, c3, l3, hL, hcase⟩ := hcut
      rename World => wx
      clear H8
      have hfin : Hid (Below w.heap.size w wx) := Lib.hid (HBw.out.trans (hX.ra.b.mono HBw.out.size))
      have d0 := hL.c0
      have d1 := hL.c1
      have hlblt := hL.lt
      rcases hcase with hz | ⟨hq1, hr3, hF3⟩
      · subst hz
        clear hL hX hR hro d1 hlblt
        go_wp2_with (fail)
        go_ret
        exact ⟨rfl, hfin.out⟩
      · have hq0 : ¬ (q3 = 0) := by omega
        have hq0' : (q3 == 0) = false := by rw [beq_eq_false_iff_ne]; exact hq0
        have hbl := body_len HG.out hr3
        have hrg := HG.out.rng
        have hl3 : l3.length ≤ 1000 := by
          have h4 : l3.length * 1 ≤ l3.length * k := Nat.mul_le_mul_left _ hrg.1
          omega
        obtain ⟨D, hD⟩ : ∃ D, (allT l3).length = D := ⟨_, rfl⟩
        have hT64 : D ≤ 64 := by have := HNK.out; omega
        have e1 : ((l3.length : Int) * (k : Int)) = (D : Int) := by rw [← hD, hbl.1]; push_cast; rfl
        obtain ⟨t0, ht0, ht1⟩ := pk_nat at0 (1 + D) (by omega)
        have cT : ∀ W, Calls Tryz.prog 12 #[.int .i64 at0, .int .i64 (1 + (D : Int))] W fun e w' => e = .returned (.int .i64 (t0 : Int)) ∧ W = w' := fun W => by rw [← ht0, Int.natCast_add]; exact pick12_any at0 _ W ba0.1 ba0.2 (by omega) (by omega)
        obtain ⟨b, hb, hb1⟩ := pk_nat at0 128 (by omega)
        have cB : ∀ W, Calls Tryz.prog 12 #[.int .i64 at0, .int .i64 128] W fun e w' => e = .returned (.int .i64 (b : Int)) ∧ W = w' := fun W => by rw [← hb]; exact pick12_any at0 _ W ba0.1 ba0.2 (by omega) (by omega)
        obtain ⟨c, hc, hc1⟩ := pk_nat at0 255 (by omega)
        have cC : ∀ W, Calls Tryz.prog 12 #[.int .i64 at0, .int .i64 255] W fun e w' => e = .returned (.int .i64 (c : Int)) ∧ W = w' := fun W => by rw [← hc]; exact pick12_any at0 _ W ba0.1 ba0.2 (by omega) (by omega)
        obtain ⟨A, hA⟩ : ∃ A, bayN k (q3 % 2).toNat = A := ⟨_, rfl⟩
        have hA1 : A + t0 ≤ 255 := by have := (bay_in HG.out (q3 % 2).toNat).1; have := hbl.2.1; omega
        have hqb := (right_g hr3).2
        have cH : ∀ W, Calls Tryz.prog 18 #[.agg #[.int .i64 (k : Int), .int .i64 (m : Int), .int .i64 B], .int .i64 q3] W fun e w' => e = .returned (.int .i64 (A : Int)) ∧ Below W.heap.size W w' := fun W => by
          have := rhead_any (k : Int) (m : Int) B q3 W (by omega)
          rw [head_bay HG.out (by omega), hA] at this
          exact this
        have HTl : Hid (∀ j, j < n → tlM n (upR n R (s0 : Int) fun M => roM M ((A : Int) + (t0 : Int)) (b : Int) (1 + (c : Int))) 9 (k : Int) (m : Int) B (j : Int) = !decide (j = s0)) := Lib.hid fun j hj => by
          have := rot_tells HG.out hr3 hR hsn (hF3 s0 hsn).2 (hF3 s0 hsn).1 (t := t0) (b := b) (c := 1 + c) (by omega) hb1 (by omega) (by omega) hj
          rwa [hA, Int.natCast_add, Int.natCast_add] at this
        have HRot : Hid (ROk n (upR n R (s0 : Int) fun M => roM M ((A : Int) + (t0 : Int)) (b : Int) (1 + (c : Int))) 100000) := Lib.hid (rok_up hro _ _ fun M hM => by unfold roM; split <;> exact hM)
        obtain ⟨c0, c1, c2⟩ := hX.cells
        have glt := hX.gl
        have HX := Lib.hid hX
        clear hL hX hR hro hF3 hr3 hbl hD ht0 ht1 hb hc hA ba0 hq0 hrg hqb
        go_upto_region 42 with (fail)
        refine wp_region_cls_tail (Below wx.heap.size wx) 21 (by kernel_rfl) (by kernel_rfl) (Below.refl _ _).drew ?_
        intro Z f hne hD hE
        have r0 : ∀ z, (f z).cell? ⟨g, 0, none⟩ = some (.int .i64 (k : Int)) := fun z => (clsCell hD z _ _ glt).trans c0
        have r1 : ∀ z, (f z).cell? ⟨g, 1, none⟩ = some (.int .i64 (m : Int)) := fun z => (clsCell hD z _ _ glt).trans c1
        have r2 : ∀ z, (f z).cell? ⟨g, 2, none⟩ = some (.int .i64 B) := fun z => (clsCell hD z _ _ glt).trans c2
        have r3 : ∀ z, (f z).cell? ⟨lb, 0, none⟩ = some (.int .i64 q3) := fun z => (clsCell hD z _ _ hlblt).trans d0
        have r4 : ∀ z, (f z).cell? ⟨lb, 1, none⟩ = some (.slice a3 l3.length c3) := fun z => (clsCell hD z _ _ hlblt).trans d1
        simp only [List.take_succ_cons, List.take_zero, List.drop_succ_cons, List.drop_zero]
        iterate 21 (go_big_quiet_step (first | (go_at_call 12; first | with_reducible exact toQ _ (cT _) | with_reducible exact toQ _ (cB _) | with_reducible exact toQ _ (cC _)) | (go_at_call 18; with_reducible exact toQB hD hE _ (cH _))))
        refine wpQuiet_nil ?_
        intro _ hw'
        obtain ⟨zq, hw''⟩ := hw'
        subst hw''
        have HX3 := Lib.hid (HX.out.after (hD zq))
        obtain ⟨wz, hwz⟩ : ∃ wz, f zq = wz := ⟨_, rfl⟩
        rw [hwz] at HX3 ⊢
        clear r0 r1 r2 r3 r4 hE hD hwz zq HX c0 c1 c2 glt hlblt d0 d1 cT cB cC cH e1
        have cF := rt_rot HX3.out.ra (s0 : Int) ((A : Int) + (t0 : Int)) (b : Int) (1 + (c : Int)) (in64_iff.2 (by omega))
        go_wp2_with (fail)
        refine cF.mono ?_
        rintro e w20 ⟨rfl, S3, s3, a3'⟩
        have HX4 := Lib.hid (HX3.out.stp s3 a3')
        clear cF HX3 s3 a3' hfin
        go_wp2_with (fail)
        go_loopw [30] (fun t wy => ∃ j : Nat, j ≤ n ∧ t = .int .i64 (j : Int) ∧ Below w20.heap.size w20 wy) (fun t _ => n - (RowKit.intOf t).toNat)
        case atStart => exact ⟨0, Nat.zero_le _, rfl, Below.refl _ _⟩
        case round =>
          obtain ⟨j, hj, rfl, hB⟩ := hrel
          rename World => wy
          have hXy := HX4.out.after hB
          by_cases hjl : j < n
          · have z1 : (j : Int) < (k : Int) + (m : Int) := by have := HNK.out.1; omega
            obtain ⟨c0, c1, c2⟩ := hXy.cells
            have cT := tells_any hXy.ra (HRot.out.le (by omega)) 9 (k : Int) (m : Int) B (j : Int)
            rw [HTl.out j hjl] at cT
            have HB := Lib.hid hB
            clear hXy hB
            by_cases hjs : j = s0
            · subst hjs
              rw [decide_eq_true rfl] at cT
              have q0 : ((j : Int) == (j : Int)) = true := beq_self_eq_true _
              go_wp2_with (fail)
              refine cT.mono ?_
              rintro e wz ⟨rfl, bz⟩
              have HBz := Lib.hid (HB.out.trans (bz.mono HB.out.size))
              clear cT bz HB c0 c1 c2
              go_wp2_with (fail)
              go_roundw
              case rel => exact ⟨j + 1, by omega, by go_num, HBz.out⟩
              case measure => simp [RowKit.intOf]; omega
            · rw [decide_eq_false hjs] at cT
              have hne : ¬ ((j : Int) = (s0 : Int)) := by omega
              have q0 : ((j : Int) == (s0 : Int)) = false := by rw [beq_eq_false_iff_ne]; exact hne
              clear hjs
              go_wp2_with (fail)
              refine cT.mono ?_
              rintro e wz ⟨rfl, bz⟩
              have HBz := Lib.hid (HB.out.trans (bz.mono HB.out.size))
              clear cT bz HB c0 c1 c2
              go_wp2_with (fail)
              go_roundw
              case rel => exact ⟨j + 1, by omega, by go_num, HBz.out⟩
              case measure => simp [RowKit.intOf]; omega
          · have z1 : ¬ ((j : Int) < (k : Int) + (m : Int)) := by have := HNK.out.1; omega
            have hfin : Hid (Below w.heap.size w wy) := Lib.hid (HBw.out.trans (hXy.ra.b.mono HBw.out.size))
            clear hXy hB
            go_wp2_with (fail)
            go_ret
            exact ⟨rfl, hfin.out⟩
end Go.Proofs.YtfadglcpapiklaaGreatDoor
