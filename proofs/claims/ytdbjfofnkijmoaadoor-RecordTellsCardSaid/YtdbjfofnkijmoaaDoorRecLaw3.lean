/- record: unlike records are laid unlike. -/
import Derived.Test.YtdbjfofnkijmoaaDoorRecLaw2
namespace Go.Proofs.YtdbjfofnkijmoaaDoor
open Go.RowKit
set_option linter.unusedVariables false
set_option linter.unusedSimpArgs false

open Rc
theorem unlike {K M B p q : Int} {a b : List St} (ha : rightB K M B p a = true) (hb : rightB K M B q b = true) : (decide (layS p a = layS q b) && decide (allT a = allT b)) = sameB p a q b := by
  rw [Bool.eq_iff_iff]
  unfold sameB
  simp only [Bool.and_eq_true, decide_eq_true_eq, beq_iff_eq]
  constructor
  · rintro ⟨h1, h2⟩
    have La := laid_nil (right_ord ha)
    have Lb := laid_nil (right_ord hb)
    have hq : p = q := by rw [← La.q, ← Lb.q, h1]
    have hs : a.map St.n = b.map St.n := by
      have := congrArg (List.map St.n) (La.s.symm.trans ((congrArg hdS h1).trans Lb.s))
      rw [List.map_map, List.map_map] at this
      exact this
    refine ⟨hq, ?_⟩
    have fa := right_f ha
    have fb := right_f hb
    have hl : a.length = b.length := by have := congrArg List.length hs; simpa using this
    have ka : ∀ s ∈ a, s.d.length = K.toNat := fun s hs => by have := fa.d s hs; omega
    have kb : ∀ s ∈ b, s.d.length = K.toNat := fun s hs => by have := fb.d s hs; omega
    apply List.ext_getElem (by simp [hl])
    intro i h3 h4
    have hi : i < a.length := by simpa using h3
    have hi' : i < b.length := by omega
    simp only [List.getElem_map]
    have e1 : a[i].n = b[i].n := by
      have := congrArg (fun l => l[i]?) hs
      simpa [List.getElem?_map, List.getElem?_eq_getElem hi, List.getElem?_eq_getElem hi'] using this
    have e2 : a[i].d = b[i].d := by rw [← allT_chunk ka hi, ← allT_chunk kb hi', h2]
    rw [e1, e2]
  · rintro ⟨rfl, h2⟩
    have h1 : allT a = allT b := by
      have := congrArg (List.flatMap Prod.snd) h2
      rw [List.flatMap_map, List.flatMap_map] at this
      exact this
    refine ⟨?_, h1⟩
    have hn : a.map St.n = b.map St.n := by have := congrArg (List.map Prod.fst) h2; simpa [List.map_map, Function.comp_def] using this
    have hl : a.length = b.length := by have := congrArg List.length hn; simpa using this
    have hnb : ∀ (a b : List St), a.map St.n = b.map St.n → nB a = nB b := by
      intro a
      induction a with
      | nil => intro b h; cases b with
        | nil => rfl
        | cons x b => simp at h
      | cons y a ih => intro b h; cases b with
        | nil => simp at h
        | cons x b =>
          simp only [List.map_cons, List.cons.injEq] at h
          rw [nB, nB, h.1, ih b h.2]
    have e1 := lay_split p a ⟨#[]⟩
    have e2 := lay_split p b ⟨#[]⟩
    rw [Rm.app_nil] at e1 e2
    rw [e1, e2, hl, hnb a b hn, h1]
theorem RBx.cls {w0 : World} {Z : Type} {f : Z → World} (hD : ∀ z, Below w0.heap.size w0 (f z)) {b : Nat} {q : Int} {v : Value} (h : RBx w0 b q v) : (∀ z, (f z).cell? ⟨b, 0, none⟩ = some (.int .i64 q)) ∧ ∀ z, (f z).cell? ⟨b, 1, none⟩ = some v :=
  ⟨fun z => ((hD z).cell (p := ⟨b, 0, none⟩) h.lt).trans h.c0, fun z => ((hD z).cell (p := ⟨b, 1, none⟩) h.lt).trans h.c1⟩
/-- A box of a raw record whose geometry may be written. -/
structure RwF (w : World) (p : Nat) (r : Raw) (vs vl : Value) : Prop where
  a : RwB w p r vs vl
  f : ∀ o, w.frozen? ⟨p, o, none⟩ = false
theorem RwF.made (w : World) (r : Raw) (vs vl : Value) (T : TypeId) : RwF (w.alloc (.cells #[.int .i64 r.k, .int .i64 r.m, .int .i64 r.b, .int .i64 r.q, vs, vl] T)) w.heap.size r vs vl :=
  ⟨RwB.made _ _ _ _ _, fun o => frozen_of_row _ _ _ _ _ (heap_alloc_new _ _)⟩
theorem RwF.below {w w' : World} {C p : Nat} {r : Raw} {vs vl : Value} (h : RwF w p r vs vl) (hb : Below C w w') (hp : p < C) : RwF w' p r vs vl :=
  ⟨h.a.below hb hp, fun o => (hb.frozen (p := ⟨p, o, none⟩) hp).trans (h.f o)⟩
theorem RwF.put {w : World} {p : Nat} {r : Raw} {vs vl : Value} (h : RwF w p r vs vl) (K M B : Int) :
    RwB (((w.setCell ⟨p, 0, none⟩ (.int .i64 K)).setCell ⟨p, 1, none⟩ (.int .i64 M)).setCell ⟨p, 2, none⟩ (.int .i64 B)) p { r with k := K, m := M, b := B } vs vl := by
  have g := geo_put h.a.a0 h.a.a1 h.a.a2 h.a.lt K M B
  have o : ∀ o, 3 ≤ o → (((w.setCell ⟨p, 0, none⟩ (.int .i64 K)).setCell ⟨p, 1, none⟩ (.int .i64 M)).setCell ⟨p, 2, none⟩ (.int .i64 B)).cell? ⟨p, o, none⟩ = w.cell? ⟨p, o, none⟩ := fun o ho => by
    rw [World.cell?_setCell_other _ _ _ _ (fun e => by have := congrArg Addr.off e; simp at this; omega), World.cell?_setCell_other _ _ _ _ (fun e => by have := congrArg Addr.off e; simp at this; omega), World.cell?_setCell_other _ _ _ _ (fun e => by have := congrArg Addr.off e; simp at this; omega)]
  exact ⟨g.c0, g.c1, g.c2, (o 3 (by decide)).trans h.a.a3, (o 4 (by decide)).trans h.a.a4, (o 5 (by decide)).trans h.a.a5, g.lt⟩
set_option maxRecDepth 100000 in
set_option maxHeartbeats 4000000 in
theorem runlike_walk (r s : Raw) (vs vl us ul : Value) (w : World) (hok : RawOk r) (hst : Reads w vs (r.st.map (.int .i64))) (hle : Reads w vl (r.le.map (.int .i64))) (hos : RawOk s) (gst : Reads w us (s.st.map (.int .i64))) (gle : Reads w ul (s.le.map (.int .i64))) :
    Calls Tryd.prog 8 #[r.v vs vl, s.v us ul] w fun e w' => e = .returned (.bool true) ∧ Below w.heap.size w w' := by
  obtain ⟨p, hp⟩ : ∃ p, w.heap.size = p := ⟨_, rfl⟩
  have A0 := RwB.made w r vs vl 42
  have b0 : Below p w (w.alloc (.cells #[.int .i64 r.k, .int .i64 r.m, .int .i64 r.b, .int .i64 r.q, vs, vl] 42)) := (Below.refl _ _).alloc (by omega) _
  have z0 : (w.alloc (.cells #[.int .i64 r.k, .int .i64 r.m, .int .i64 r.b, .int .i64 r.q, vs, vl] 42)).heap.size = p + 1 := by simp [hp]
  rw [hp] at A0
  obtain ⟨sa, sc, hvs⟩ := hst.isSlice
  obtain ⟨la, lc, hvl⟩ := hle.isSlice
  obtain ⟨ta, tc, hus⟩ := gst.isSlice
  obtain ⟨ma, mc, hul⟩ := gle.isSlice
  rw [List.length_map] at hvs hvl hus hul
  subst hvs
  subst hvl
  subst hus
  subst hul
  unfold Raw.v
  go_enter Tryd.func8, Tryd.ntmps8
  go_upto_region 1 with (fail)
  replace hp := Lib.hid hp
  generalize w.alloc (.cells #[.int .i64 r.k, .int .i64 r.m, .int .i64 r.b, .int .i64 r.q, (.slice sa r.st.length sc), (.slice la r.le.length lc)] 42) = wa at *
  have D0 := RwF.made wa s (.slice ta s.st.length tc) (.slice ma s.le.length mc) 42
  have bb : Below (p + 1) wa (wa.alloc (.cells #[.int .i64 s.k, .int .i64 s.m, .int .i64 s.b, .int .i64 s.q, (.slice ta s.st.length tc), (.slice ma s.le.length mc)] 42)) := (Below.refl _ _).alloc (by omega) _
  have z1 : (wa.alloc (.cells #[.int .i64 s.k, .int .i64 s.m, .int .i64 s.b, .int .i64 s.q, (.slice ta s.st.length tc), (.slice ma s.le.length mc)] 42)).heap.size = p + 1 + 1 := by simp [z0]
  rw [z0] at D0
  have A1 := A0.below bb (by omega)
  have b1 := b0.trans (bb.mono (by omega))
  clear A0 b0 bb z0
  generalize wa.alloc (.cells #[.int .i64 s.k, .int .i64 s.m, .int .i64 s.b, .int .i64 s.q, (.slice ta s.st.length tc), (.slice ma s.le.length mc)] 42) = wb at *
  go_wp2_with (fail)
  refine (awake11_any _).mono ?_
  rintro e w1 ⟨rfl, b2⟩
  have A2 := A1.below b2 A1.lt
  have D2 := D0.below b2 D0.a.lt
  have B2 := b1.trans (b2.mono (by omega))
  clear A1 D0 b1 b2 z1
  have e0 := A2.a0
  have e1 := A2.a1
  have e2 := A2.a2
  have e3 := D2.a.a0
  have e4 := D2.a.a1
  have e5 := D2.a.a2
  have f0 := D2.f 0
  have f1 := D2.f 1
  have f2 := D2.f 2
  have D3 := D2.put r.k r.m r.b
  have A3 := A2.heap (geo_heap w1 (p + 1) (.int .i64 r.k) (.int .i64 r.m) (.int .i64 r.b) (k := p) (by omega)) (by simp)
  have B3 := ((B2.setCell (p := ⟨p + 1, 0, none⟩) (by show p ≤ p + 1; omega) (.int .i64 r.k)).setCell (p := ⟨p + 1, 1, none⟩) (by show p ≤ p + 1; omega) (.int .i64 r.m)).setCell (p := ⟨p + 1, 2, none⟩) (by show p ≤ p + 1; omega) (.int .i64 r.b)
  go_upto_region 3 with (fail)
  clear e0 e1 e2 e3 e4 e5 f0 f1 f2 A2 D2 B2
  generalize ((w1.setCell ⟨p + 1, 0, none⟩ (.int .i64 r.k)).setCell ⟨p + 1, 1, none⟩ (.int .i64 r.m)).setCell ⟨p + 1, 2, none⟩ (.int .i64 r.b) = w2 at *
  have hst2 := hst.below (by rw [hp.out]; exact B3)
  have hle2 := hle.below (by rw [hp.out]; exact B3)
  have gst2 := gst.below (by rw [hp.out]; exact B3)
  have gle2 := gle.below (by rw [hp.out]; exact B3)
  clear hst hle gst gle
  have hos' : RawOk { s with k := r.k, m := r.m, b := r.b } := ⟨hok.k, hok.m, hok.b, hos.q, hos.st, hos.le, hos.sn, hos.ln⟩
  have e0 := A3.a0
  have e1 := A3.a1
  have e2 := A3.a2
  have e3 := A3.a3
  have e4 := A3.a4
  have e5 := A3.a5
  have cF := fit11_any r _ _ w2 hok hst2 hle2
  unfold Raw.v at cF
  go_wp2_with (fail)
  refine cF.mono ?_
  rintro e wf1 ⟨v1, l1, rfl, F1, hl1, bf1⟩
  clear e0 e1 e2 e3 e4 e5 cF
  have hR1 := fit_ok11 r hl1
  have hf1 := right_f hR1
  obtain ⟨va1, vc1, ev⟩ := F1.o.isSlice
  subst ev
  have LL1 := F1.reads (right_reads hR1)
  obtain ⟨g1, hg1⟩ : ∃ g, wf1.heap.size = g := ⟨_, rfl⟩
  have GG1 := GBx.made wf1 (fK r.k) (fM r.m) (fB r.b) 23
  have bb : Below g1 wf1 (wf1.alloc (.cells #[.int .i64 (fK r.k), .int .i64 (fM r.m), .int .i64 (fB r.b)] 23)) := (Below.refl _ _).alloc (by omega) _
  have s3 : (wf1.alloc (.cells #[.int .i64 (fK r.k), .int .i64 (fM r.m), .int .i64 (fB r.b)] 23)).heap.size = g1 + 1 := by simp [hg1]
  have X1 := RBx.made (wf1.alloc (.cells #[.int .i64 (fK r.k), .int .i64 (fM r.m), .int .i64 (fB r.b)] 23)) (fitQ r) (.slice va1 l1.length vc1) 26
  have b4 : Below (g1 + 1) (wf1.alloc (.cells #[.int .i64 (fK r.k), .int .i64 (fM r.m), .int .i64 (fB r.b)] 23)) ((wf1.alloc (.cells #[.int .i64 (fK r.k), .int .i64 (fM r.m), .int .i64 (fB r.b)] 23)).alloc (.cells #[.int .i64 (fitQ r), .slice va1 l1.length vc1] 26)) := (Below.refl _ _).alloc (by omega) _
  rw [hg1] at GG1
  rw [s3] at X1
  have G1 := GG1.below b4 (by omega)
  have bd1 : Below wf1.heap.size wf1 ((wf1.alloc (.cells #[.int .i64 (fK r.k), .int .i64 (fM r.m), .int .i64 (fB r.b)] 23)).alloc (.cells #[.int .i64 (fitQ r), .slice va1 l1.length vc1] 26)) := by rw [hg1]; exact bb.trans (b4.mono (by omega))
  have L1 := LL1.below bd1
  have F1' := F1.after bd1
  have bt1 := bf1.trans (bd1.mono bf1.size)
  have hsz1 := bf1.size
  go_upto_region 4 with (fail)
  generalize (wf1.alloc (.cells #[.int .i64 (fK r.k), .int .i64 (fM r.m), .int .i64 (fB r.b)] 23)).alloc (.cells #[.int .i64 (fitQ r), .slice va1 l1.length vc1] 26) = wg1 at *
  clear LL1 GG1 bb s3 b4 bd1 F1
  have D4 := D3.below bt1 D3.lt
  have gst3 := gst2.below bt1
  have gle3 := gle2.below bt1
  have B4 := B3.trans (bt1.mono (by have := A3.lt; omega))
  have hpg : p + 1 < g1 := by have := D3.lt; omega
  clear A3 D3 B3 bt1 hst2 hle2 gst2 gle2 hok bf1
  have hg1' := Lib.hid hg1
  clear hg1
  obtain ⟨t, ht⟩ : ∃ t : Raw, ({ s with k := r.k, m := r.m, b := r.b } : Raw) = t := ⟨_, rfl⟩
  have t1 : Hid (t.k = r.k) := Lib.hid (by rw [← ht])
  have t2 : Hid (t.m = r.m) := Lib.hid (by rw [← ht])
  have t3 : Hid (t.b = r.b) := Lib.hid (by rw [← ht])
  have t4 : t.st = s.st := by rw [← ht]
  have t5 : t.le = s.le := by rw [← ht]
  rw [ht] at D4 hos'
  rw [← t4] at D4 gst3 ⊢
  rw [← t5] at D4 gle3 ⊢
  clear ht t4 t5 hos
  have e0 := D4.a0
  have e1 := D4.a1
  have e2 := D4.a2
  have e3 := D4.a3
  have e4 := D4.a4
  have e5 := D4.a5
  have cF := fit11_any t _ _ wg1 hos' gst3 gle3
  unfold Raw.v at cF
  go_wp2_with (fail)
  refine cF.mono ?_
  rintro e wf2 ⟨v2, l2, rfl, F2, hl2, bf2⟩
  clear e0 e1 e2 e3 e4 e5 cF
  have hR2 := fit_ok11 t hl2
  have hf2 := right_f hR2
  obtain ⟨va2, vc2, ev⟩ := F2.o.isSlice
  subst ev
  have LL2 := F2.reads (right_reads hR2)
  obtain ⟨g2, hg2⟩ : ∃ g, wf2.heap.size = g := ⟨_, rfl⟩
  have GG2 := GBx.made wf2 (fK t.k) (fM t.m) (fB t.b) 23
  have bb : Below g2 wf2 (wf2.alloc (.cells #[.int .i64 (fK t.k), .int .i64 (fM t.m), .int .i64 (fB t.b)] 23)) := (Below.refl _ _).alloc (by omega) _
  have s3 : (wf2.alloc (.cells #[.int .i64 (fK t.k), .int .i64 (fM t.m), .int .i64 (fB t.b)] 23)).heap.size = g2 + 1 := by simp [hg2]
  have X2 := RBx.made (wf2.alloc (.cells #[.int .i64 (fK t.k), .int .i64 (fM t.m), .int .i64 (fB t.b)] 23)) (fitQ t) (.slice va2 l2.length vc2) 26
  have b4 : Below (g2 + 1) (wf2.alloc (.cells #[.int .i64 (fK t.k), .int .i64 (fM t.m), .int .i64 (fB t.b)] 23)) ((wf2.alloc (.cells #[.int .i64 (fK t.k), .int .i64 (fM t.m), .int .i64 (fB t.b)] 23)).alloc (.cells #[.int .i64 (fitQ t), .slice va2 l2.length vc2] 26)) := (Below.refl _ _).alloc (by omega) _
  rw [hg2] at GG2
  rw [s3] at X2
  have G2 := GG2.below b4 (by omega)
  have bd2 : Below wf2.heap.size wf2 ((wf2.alloc (.cells #[.int .i64 (fK t.k), .int .i64 (fM t.m), .int .i64 (fB t.b)] 23)).alloc (.cells #[.int .i64 (fitQ t), .slice va2 l2.length vc2] 26)) := by rw [hg2]; exact bb.trans (b4.mono (by omega))
  have L2 := LL2.below bd2
  have F2' := F2.after bd2
  have bt2 := bf2.trans (bd2.mono bf2.size)
  have hsz2 := bf2.size
  go_upto_region 5 with (fail)
  generalize (wf2.alloc (.cells #[.int .i64 (fK t.k), .int .i64 (fM t.m), .int .i64 (fB t.b)] 23)).alloc (.cells #[.int .i64 (fitQ t), .slice va2 l2.length vc2] 26) = wg2 at *
  clear LL2 GG2 bb s3 b4 bd2 F2
  rw [t1.out, t2.out, t3.out] at hR2 hf2
  have G3 := G1.below bt2 G1.lt
  have X3 := X1.below bt2 X1.lt
  have L3 := L1.below bt2
  have B5 := B4.trans (bt2.mono (by have := G1.lt; omega))
  have hg2' := Lib.hid hg2
  clear hg2
  have hun := unlike hR1 hR2
  have hn1 := hf1.n
  have hn2 := hf2.n
  clear D4 bt2 gst3 gle3 hos' G1 X1 L1 B4 bf2 F1' F2' hl1 hl2 hsz1 hsz2 hf1 hf2 G2
  generalize fitQ r = q1 at *
  generalize fitQ t = q2 at *
  clear t1 t2 t3
  generalize fK r.k = K at *
  generalize fM r.m = M at *
  generalize fB r.b = Bb at *
  have cL1 := fun W (h : SReads W (.slice va1 l1.length vc1) l1) => lay_right (K := K) (M := M) (B := Bb) (q := q1) h (by omega) hR1
  have cL2 := fun W (h : SReads W (.slice va2 l2.length vc2) l2) => lay_right (K := K) (M := M) (B := Bb) (q := q2) h (by omega) hR2
  have cS := fun W (h1 : SReads W (.slice va1 l1.length vc1) l1) (h2 : SReads W (.slice va2 l2.length vc2) l2) => rsame11_any q1 q2 (.slice va1 l1.length vc1) (.slice va2 l2.length vc2) l1 l2 W h1 h2 (by omega)
  have ha1 : (allT l1).length ≤ 140737488355328 := by
    have hf := right_f hR1
    have hk := hf.k
    rw [allT_len (k := K.toNat) fun s hs => by have := hf.d s hs; omega]
    exact Nat.le_trans (Nat.mul_le_mul hn1.2 (show K.toNat ≤ 4 by omega)) (by decide)
  have hS1 : ((layS q1 l1).toList == (layS q2 l2).toList) = decide (layS q1 l1 = layS q2 l2) := by
    rw [Lib.toList_data, Lib.toList_data, Bool.eq_iff_iff, beq_iff_eq, decide_eq_true_eq]
    exact ⟨fun e => Go.WideShapes.bytes_inj e, fun e => by rw [e]⟩
  rw [← hun] at cS
  have cT := fun W u1 u2 (h1 : Reads W u1 ((allT l1).map .string)) (h2 : Reads W u2 ((allT l2).map .string)) => same02_any u1 u2 (allT l1) (allT l2) W h1 h2 ha1
  clear hR1 hR2 hun ha1
  generalize layS q1 l1 = S1 at *
  generalize layS q2 l2 = S2 at *
  generalize decide (S1 = S2) = D1 at *
  generalize decide (allT l1 = allT l2) = D2 at *
  generalize hA1 : allT l1 = A1 at *
  generalize hA2 : allT l2 = A2 at *
  clear hA1 hA2
  have e0 := G3.c0
  have e1 := G3.c1
  have e2 := G3.c2
  have e3 := X3.c0
  have e4 := X3.c1
  go_wp2_with (fail)
  refine (cL1 _ L3).mono ?_
  rintro e w5 ⟨u1, rfl, o1, b5⟩
  have G5 := G3.below b5 G3.lt
  have X5 := X3.below b5 X3.lt
  have Y5 := X2.below b5 X2.lt
  have L5 := L3.below b5
  have M5 := L2.below b5
  have B6 := B5.trans (b5.mono (by have := G3.lt; omega))
  obtain ⟨ua1, uc1, ev⟩ := o1.isSlice
  rw [List.length_map] at ev
  subst ev
  clear e0 e1 e2 e3 e4 G3 X3 X2 L3 L2 B5 b5 cL1
  have e0 := G5.c0
  have e1 := G5.c1
  have e2 := G5.c2
  have e3 := Y5.c0
  have e4 := Y5.c1
  go_wp2_with (fail)
  refine (cL2 _ M5).mono ?_
  rintro e w6 ⟨u2, rfl, o2, b6⟩
  have X6 := X5.below b6 X5.lt
  have Y6 := Y5.below b6 Y5.lt
  have L6 := L5.below b6
  have M6 := M5.below b6
  have r1 := (o1.after b6).reads
  have r2 := o2.reads
  have B7 := B6.trans (b6.mono (by have := G5.lt; omega))
  have hpw : p < w6.heap.size := by have := X6.lt; omega
  obtain ⟨ua2, uc2, ev⟩ := o2.isSlice
  rw [List.length_map] at ev
  subst ev
  clear e0 e1 e2 e3 e4 G5 X5 Y5 L5 M5 B6 b6 cL2 o1 o2
  have d1 : ∀ W, Below w6.heap.size w6 W → Calls Tryd.prog 20 #[.agg #[.int .i64 q1, .slice va1 l1.length vc1], .agg #[.int .i64 q2, .slice va2 l2.length vc2]] W (Tells W (.bool (D1 && D2))) := fun W hW => cS W (L6.below hW) (M6.below hW)
  have d2 : ∀ W, Below w6.heap.size w6 W → Calls Tryd.prog 16 #[.slice ua1 A1.length uc1, .slice ua2 A2.length uc2] W (Tells W (.bool D2)) := fun W hW => cT W _ _ (r1.below hW) (r2.below hW)
  unfold Tells at d1 d2
  clear cS cT r1 r2 L6 M6
  obtain ⟨x0, x1⟩ : True ∧ True := ⟨trivial, trivial⟩
  cases D1
  all_goals
    cases D2
    all_goals
      go_wp2_with (fail)
      refine wp_region_cls (Below w6.heap.size w6) (by kernel_rfl) (by kernel_rfl) (Below.refl _ _).drew ?_
      intro Z f hne hD hE
      obtain ⟨i0, i1⟩ := X6.cls hD
      obtain ⟨j0, j1⟩ := Y6.cls hD
      iterate 24 (go_big_quiet_step (first | (go_at_call 20; with_reducible exact toQB hD hE _ (d1 _ (hD _))) | (go_at_call 16; with_reducible exact toQB hD hE _ (d2 _ (hD _)))))
      refine wpQuiet_nil ?_
      intro _ hw'
      obtain ⟨zq, hw''⟩ := hw'
      subst hw''
      have B8 := B7.trans ((hD zq).mono (by omega))
      clear hE i0 i1 j0 j1
      go_wp2_with (fail)
      go_ret
      exact ⟨rfl, by rw [hp.out]; exact B8⟩
end Go.Proofs.YtdbjfofnkijmoaaDoor
