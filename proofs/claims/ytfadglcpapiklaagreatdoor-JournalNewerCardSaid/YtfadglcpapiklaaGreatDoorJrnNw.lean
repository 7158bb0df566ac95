/- journal: JournalNewer. -/
import Derived.Test.YtfadglcpapiklaaGreatDoorJrnNwM
import Derived.Test.YtfadglcpapiklaaGreatDoorJrnPu
import Derived.Test.YtfadglcpapiklaaGreatDoorJrnFg
import Derived.Test.YtfadglcpapiklaaGreatDoorJrnLsM
namespace Go.Proofs.YtfadglcpapiklaaGreatDoor
open Go.RowKit
open Rc
set_option linter.unusedVariables false
set_option linter.unusedSimpArgs false
set_option maxRecDepth 100000

/-- A box of a raw record whose geometry may be written. -/
structure RwF (w : World) (p : Nat) (r : Raw) (vs vl : Value) : Prop where
  a : RwB w p r vs vl
  f : ∀ o, w.frozen? ⟨p, o, none⟩ = false
theorem RwF.made (w : World) (r : Raw) (vs vl : Value) (T : TypeId) : RwF (w.alloc (.cells #[.int .i64 r.k, .int .i64 r.m, .int .i64 r.b, .int .i64 r.q, vs, vl] T)) w.heap.size r vs vl :=
  ⟨RwB.made _ _ _ _ _, fun o => frozen_of_row _ _ _ _ _ (heap_alloc_new _ _)⟩
theorem RwF.below {w w' : World} {C p : Nat} {r : Raw} {vs vl : Value} (h : RwF w p r vs vl) (hb : Below C w w') (hp : p < C) : RwF w' p r vs vl :=
  ⟨h.a.below hb hp, fun o => (hb.frozen (p := ⟨p, o, none⟩) hp).trans (h.f o)⟩
theorem RwF.put {w : World} {p : Nat} {r : Raw} {vs vl : Value} (h : RwF w p r vs vl) (K M B : Int) :
    RwB (((w.setCell ⟨p, 0, none⟩ (.int .i64 K)).setCell ⟨p, 1, none⟩ (.int .i64 M)).setCell ⟨p, 2, none⟩ (.int .i64 B)) p { r with k := K, m := M, b := B } vs vl := by
  have g := geo_put h.a.a0 h.a.a1 h.a.a2 h.a.lt K M B
  have o : ∀ o, 3 ≤ o → (((w.setCell ⟨p, 0, none⟩ (.int .i64 K)).setCell ⟨p, 1, none⟩ (.int .i64 M)).setCell ⟨p, 2, none⟩ (.int .i64 B)).cell? ⟨p, o, none⟩ = w.cell? ⟨p, o, none⟩ := fun o ho => by
    rw [World.cell?_setCell_other _ _ _ _ (fun e => by have := congrArg Addr.off e; simp at this; omega), World.cell?_setCell_other _ _ _ _ (fun e => by have := congrArg Addr.off e; simp at this; omega), World.cell?_setCell_other _ _ _ _ (fun e => by have := congrArg Addr.off e; simp at this; omega)]
  exact ⟨g.c0, g.c1, g.c2, (o 3 (by decide)).trans h.a.a3, (o 4 (by decide)).trans h.a.a4, (o 5 (by decide)).trans h.a.a5, g.lt⟩
/-- Which slots are named. -/
def nmP (l : List Int) (n : Nat) (x : Int) : Bool := (l.take 20).any fun c => decide (pk11 c (n : Int) = x)
def nmJ (l : List Int) (n i j : Nat) : Bool := (l.take j).any fun c => decide (pk11 c (n : Int) = (i : Int))
theorem nmJ_succ {l : List Int} {n i j : Nat} (h : j < l.length) : nmJ l n i (j + 1) = (nmJ l n i j || decide (pk11 l[j] (n : Int) = (i : Int))) := by
  unfold nmJ
  rw [List.take_succ_eq_append_getElem h, List.any_append]; simp
theorem nmJ_all {l : List Int} {n i j : Nat} (h : j = 20 ∨ (j = l.length ∧ j ≤ 20)) : nmJ l n i j = nmP l n (i : Int) := by
  unfold nmJ nmP
  rcases h with rfl | ⟨rfl, h2⟩
  · rfl
  · rw [List.take_length, List.take_of_length_le h2]
def slL (l : List Int) (n i : Nat) : List Int := (allL i).filter (nmP l n)
theorem slL_succ (l : List Int) (n i : Nat) : slL l n (i + 1) = slL l n i ++ (if nmP l n (i : Int) = true then [(i : Int)] else []) := by
  unfold slL
  rw [show allL (i + 1) = allL i ++ [(i : Int)] by simp [allL, List.range_succ], List.filter_append]
  congr 1
  split
  · next h => rw [List.filter_cons_of_pos h]; rfl
  · next h => rw [List.filter_cons_of_neg h]; rfl
theorem slL_lt {l : List Int} {n i : Nat} : ∀ x ∈ slL l n i, 0 ≤ x ∧ x < (i : Int) := fun x hx => allL_mem.1 (List.mem_filter.1 hx).1
theorem slL_len (l : List Int) (n i : Nat) : (slL l n i).length ≤ i := Nat.le_trans (List.length_filter_le _ _) (by rw [allL_len]; exact Nat.le_refl _)
theorem slL_nodup (l : List Int) (n i : Nat) : (slL l n i).Nodup := List.Pairwise.filter _ allL_nodup
theorem pk_sumN (c : Int) (k m n : Nat) (hn : n = k + m) (h1 : 1 ≤ n) : ∃ j : Nat, pk11 c ((k : Int) + (m : Int)) = (j : Int) ∧ j < n ∧ pk11 c (n : Int) = (j : Int) := by
  obtain ⟨j, e, h⟩ := pk_nat c n h1
  exact ⟨j, by rw [← e, hn, Int.natCast_add], h, e⟩
/-- The last one of a list of one's own. -/
theorem own_last {w : World} {B : Nat} {v : Value} {xs : List Int} (ho : Own w B 3 v (xs.map (.int .i64))) (hn : 0 < xs.length) : ∃ g c L x, v = .slice (some ⟨g, 0, none⟩) (L + 1) c ∧ xs.length = L + 1 ∧ w.cell? ⟨g, L, none⟩ = some (.int .i64 x) ∧ x ∈ xs ∧ xs.getLast? = some x := by
  obtain ⟨g, c, rfl, _, _⟩ := ho.form (by rw [List.length_map]; exact hn)
  obtain ⟨L, hL⟩ : ∃ L, xs.length = L + 1 := ⟨xs.length - 1, by omega⟩
  have hc := ho.cell (i := L) (by rw [List.length_map]; omega)
  have hl : L < xs.length := by omega
  rw [List.getD_eq_getElem?_getD, List.getElem?_map, List.getElem?_eq_getElem hl] at hc
  exact ⟨g, c, L, xs[L], by rw [List.length_map, hL], hL, hc, List.getElem_mem hl, by rw [List.getLast?_eq_getElem?, hL, Nat.add_sub_cancel, List.getElem?_eq_getElem hl]⟩
theorem pk_sumO (c : Int) (k m n : Nat) (hn : n = k + m) (h1 : 1 ≤ n) : ∃ j : Nat, pk11 c ((k : Int) + (m : Int)) = (j : Int) ∧ j < n := by
  obtain ⟨j, e, h, _⟩ := pk_sumN c k m n hn h1
  exact ⟨j, e, h⟩
theorem dead_none {n : Nat} {R : Rk} {l : List Int} (hl : ∀ x ∈ l, 0 ≤ x ∧ x < (n : Int)) (h : ∀ j, j < n → (R.M j).fd = false) : deadL R l = [] := List.filter_eq_nil_iff.2 fun x hx => by
  obtain ⟨h0, h3⟩ := hl x hx
  obtain ⟨j, rfl⟩ := Int.eq_ofNat_of_zero_le h0
  rw [Int.toNat_natCast, h j (by omega)]
  simp
set_option maxHeartbeats 3000000 in
theorem jnewer_walk (r s : Raw) (vs vl us ul : Value) (v3 : Value) (l3 : List Int) (turn : Int) (w : World) (hok : RawOk r) (hst : Reads w vs (r.st.map (.int .i64))) (hle : Reads w vl (r.le.map (.int .i64))) (hos : RawOk s) (gst : Reads w us (s.st.map (.int .i64))) (gle : Reads w ul (s.le.map (.int .i64))) (Rl3 : Reads w v3 (l3.map (.int .i64))) (Fl3 : ∀ x ∈ l3, -9223372036854775808 ≤ x ∧ x ≤ 9223372036854775807) (Nl3 : l3.length ≤ 9223372036854775806) (bt0 : -9223372036854775808 ≤ turn ∧ turn ≤ 9223372036854775807) :
    Calls Tryz.prog 6 #[r.v vs vl, s.v us ul, v3, .int .i64 turn] w fun e w' => e = .returned (.bool true) ∧ Below w.heap.size w w' := by
  obtain ⟨pa3, pc3, hv3⟩ := Rl3.form
  rw [List.length_map] at hv3
  subst hv3
  have HRl3 := Lib.hid (And.intro Rl3 Fl3)
  clear Rl3 Fl3
  obtain ⟨p, hp⟩ : ∃ p, w.heap.size = p := ⟨_, rfl⟩
  have A0 := RwB.made w r vs vl 26
  have b0 : Below p w (w.alloc (.cells #[.int .i64 r.k, .int .i64 r.m, .int .i64 r.b, .int .i64 r.q, vs, vl] 26)) := (Below.refl _ _).alloc (by omega) _
  have z0 : (w.alloc (.cells #[.int .i64 r.k, .int .i64 r.m, .int .i64 r.b, .int .i64 r.q, vs, vl] 26)).heap.size = p + 1 := by simp [hp]
  rw [hp] at A0
  obtain ⟨sa, sc, hvs⟩ := hst.isSlice
  obtain ⟨la, lc, hvl⟩ := hle.isSlice
  obtain ⟨ta, tc, hus⟩ := gst.isSlice
  obtain ⟨ma, mc, hul⟩ := gle.isSlice
  rw [List.length_map] at hvs hvl hus hul
  subst hvs
  subst hvl
  subst hus
  subst hul
  unfold Raw.v
  go_enter Tryz.func6, Tryz.ntmps6
  go_upto_region 1 with (fail)
  replace hp := Lib.hid hp
  generalize w.alloc (.cells #[.int .i64 r.k, .int .i64 r.m, .int .i64 r.b, .int .i64 r.q, (.slice sa r.st.length sc), (.slice la r.le.length lc)] 26) = wa at *
  have D0 := RwF.made wa s (.slice ta s.st.length tc) (.slice ma s.le.length mc) 26
  have bb : Below (p + 1) wa (wa.alloc (.cells #[.int .i64 s.k, .int .i64 s.m, .int .i64 s.b, .int .i64 s.q, (.slice ta s.st.length tc), (.slice ma s.le.length mc)] 26)) := (Below.refl _ _).alloc (by omega) _
  have z1 : (wa.alloc (.cells #[.int .i64 s.k, .int .i64 s.m, .int .i64 s.b, .int .i64 s.q, (.slice ta s.st.length tc), (.slice ma s.le.length mc)] 26)).heap.size = p + 1 + 1 := by simp [z0]
  rw [z0] at D0
  have A1 := A0.below bb (by omega)
  have b1 := b0.trans (bb.mono (by omega))
  clear A0 b0 bb z0
  generalize wa.alloc (.cells #[.int .i64 s.k, .int .i64 s.m, .int .i64 s.b, .int .i64 s.q, (.slice ta s.st.length tc), (.slice ma s.le.length mc)] 26) = wb at *
  go_wp2_with (fail)
  refine (awake12_any _).mono ?_
  rintro e w1 ⟨rfl, b2⟩
  have A2 := A1.below b2 A1.lt
  have D2 := D0.below b2 D0.a.lt
  have B2 := b1.trans (b2.mono (by omega))
  clear A1 D0 b1 b2 z1
  have e0 := A2.a0
  have e1 := A2.a1
  have e2 := A2.a2
  have e3 := D2.a.a0
  have e4 := D2.a.a1
  have e5 := D2.a.a2
  have f0 := D2.f 0
  have f1 := D2.f 1
  have f2 := D2.f 2
  have D3 := D2.put r.k r.m r.b
  have A3 := A2.heap (geo_heap w1 (p + 1) (.int .i64 r.k) (.int .i64 r.m) (.int .i64 r.b) (k := p) (by omega)) (by simp)
  have B3 := ((B2.setCell (p := ⟨p + 1, 0, none⟩) (by show p ≤ p + 1; omega) (.int .i64 r.k)).setCell (p := ⟨p + 1, 1, none⟩) (by show p ≤ p + 1; omega) (.int .i64 r.m)).setCell (p := ⟨p + 1, 2, none⟩) (by show p ≤ p + 1; omega) (.int .i64 r.b)
  go_upto_region 3 with (fail)
  clear e0 e1 e2 e3 e4 e5 f0 f1 f2 A2 D2 B2
  generalize ((w1.setCell ⟨p + 1, 0, none⟩ (.int .i64 r.k)).setCell ⟨p + 1, 1, none⟩ (.int .i64 r.m)).setCell ⟨p + 1, 2, none⟩ (.int .i64 r.b) = w2 at *
  have hst2 := hst.below (by rw [hp.out]; exact B3)
  have hle2 := hle.below (by rw [hp.out]; exact B3)
  have gst2 := gst.below (by rw [hp.out]; exact B3)
  have gle2 := gle.below (by rw [hp.out]; exact B3)
  clear hst hle gst gle
  have hos' : RawOk { s with k := r.k, m := r.m, b := r.b } := ⟨hok.k, hok.m, hok.b, hos.q, hos.st, hos.le, hos.sn, hos.ln⟩
  have e0 := A3.a0
  have e1 := A3.a1
  have e2 := A3.a2
  have e3 := A3.a3
  have e4 := A3.a4
  have e5 := A3.a5
  have cF := fit11_any r _ _ w2 hok hst2 hle2
  unfold Raw.v at cF
  go_wp2_with (fail)
  refine cF.mono ?_
  rintro e wf1 ⟨V0, l, rfl, F1, hl1, bf1⟩
  clear e0 e1 e2 e3 e4 e5 cF
  have HR1 := fit_ok11 r hl1
  obtain ⟨va, vc, ev⟩ := F1.o.isSlice
  subst ev
  have L1 := F1.reads (right_reads HR1)
  have O1 : Hid (∀ q, ((Value.slice va l.length vc).ownBlock = some q ∨ ∃ s ∈ l, s.v.ownBlock = some q) → q < wf1.heap.size) := Lib.hid fun q hq => by
    rcases hq with hq | ⟨s, hs, hq⟩
    · exact (F1.old _ (.inl rfl) q hq).2
    · exact (F1.old _ (.inr ⟨s, hs, rfl⟩) q hq).2
  obtain ⟨g, hg⟩ : ∃ g, wf1.heap.size = g := ⟨_, rfl⟩
  have s3 : (wf1.alloc (.cells #[.int .i64 (fK11 r.k), .int .i64 (fM11 r.m), .int .i64 (fB11 r.b)] 23)).heap.size = g + 1 := by simp [hg]
  obtain ⟨hG1, hXb, hbb, hsz⟩ := two_boxes2 wf1 #[.int .i64 (fK11 r.k), .int .i64 (fM11 r.m), .int .i64 (fB11 r.b)] #[.int .i64 (fitQ r), .slice va l.length vc] 23 30
  have XX1 := RBx.made (wf1.alloc (.cells #[.int .i64 (fK11 r.k), .int .i64 (fM11 r.m), .int .i64 (fB11 r.b)] 23)) (fitQ r) (.slice va l.length vc) 30
  rw [s3] at XX1
  rw [hg] at hG1
  have LX1 := L1.below hbb
  have bt := bf1.trans (hbb.mono bf1.size)
  have hsz1 := bf1.size
  go_upto_region 4 with (fail)
  generalize (wf1.alloc (.cells #[.int .i64 (fK11 r.k), .int .i64 (fM11 r.m), .int .i64 (fB11 r.b)] 23)).alloc (.cells #[.int .i64 (fitQ r), .slice va l.length vc] 30) = w4 at *
  have HS1 : Hid (wf1.heap.size = g ∧ w4.heap.size = g + 1 + 1 ∧ w2.heap.size ≤ g) := Lib.hid ⟨hg, by rw [hsz, hg], by omega⟩
  clear L1 s3 hXb hbb hsz bf1 F1 hl1
  have D4 := D3.below bt D3.lt
  have gst3 := gst2.below bt
  have gle3 := gle2.below bt
  have B4 := B3.trans (bt.mono (by have := A3.lt; omega))
  have hpg : p + 1 < g := by have := D3.lt; omega
  clear A3 D3 B3 bt hst2 hle2 gst2 gle2 hok hsz1 hg
  obtain ⟨t, ht⟩ : ∃ t : Raw, ({ s with k := r.k, m := r.m, b := r.b } : Raw) = t := ⟨_, rfl⟩
  have t1 : Hid (t.k = r.k) := Lib.hid (by rw [← ht])
  have t2 : Hid (t.m = r.m) := Lib.hid (by rw [← ht])
  have t3 : Hid (t.b = r.b) := Lib.hid (by rw [← ht])
  have t4 : t.st = s.st := by rw [← ht]
  have t5 : t.le = s.le := by rw [← ht]
  rw [ht] at D4 hos'
  rw [← t4] at D4 gst3 ⊢
  rw [← t5] at D4 gle3 ⊢
  clear ht t4 t5 hos
  have e0 := D4.a0
  have e1 := D4.a1
  have e2 := D4.a2
  have e3 := D4.a3
  have e4 := D4.a4
  have e5 := D4.a5
  have cF := fit11_any t _ _ w4 hos' gst3 gle3
  unfold Raw.v at cF
  go_wp2_with (fail)
  refine cF.mono ?_
  rintro e wf2 ⟨V0, ls, rfl, F1, hl1, bf1⟩
  clear e0 e1 e2 e3 e4 e5 cF
  have HR2 := fit_ok11 t hl1
  obtain ⟨vb, vd, ev⟩ := F1.o.isSlice
  subst ev
  have L1 := F1.reads (right_reads HR2)
  have O2 : Hid (∀ q, ((Value.slice vb ls.length vd).ownBlock = some q ∨ ∃ s ∈ ls, s.v.ownBlock = some q) → q < wf2.heap.size) := Lib.hid fun q hq => by
    rcases hq with hq | ⟨s, hs, hq⟩
    · exact (F1.old _ (.inl rfl) q hq).2
    · exact (F1.old _ (.inr ⟨s, hs, rfl⟩) q hq).2
  obtain ⟨h, hg⟩ : ∃ g, wf2.heap.size = g := ⟨_, rfl⟩
  have s3 : (wf2.alloc (.cells #[.int .i64 (fK11 t.k), .int .i64 (fM11 t.m), .int .i64 (fB11 t.b)] 23)).heap.size = h + 1 := by simp [hg]
  obtain ⟨hG2, hXb, hbb, hsz⟩ := two_boxes2 wf2 #[.int .i64 (fK11 t.k), .int .i64 (fM11 t.m), .int .i64 (fB11 t.b)] #[.int .i64 (fitQ t), .slice vb ls.length vd] 23 30
  have XX2 := RBx.made (wf2.alloc (.cells #[.int .i64 (fK11 t.k), .int .i64 (fM11 t.m), .int .i64 (fB11 t.b)] 23)) (fitQ t) (.slice vb ls.length vd) 30
  rw [s3] at XX2
  rw [hg] at hG2
  have LX2 := L1.below hbb
  have bt := bf1.trans (hbb.mono bf1.size)
  have hsz1 := bf1.size
  go_upto_region 5 with (fail)
  generalize (wf2.alloc (.cells #[.int .i64 (fK11 t.k), .int .i64 (fM11 t.m), .int .i64 (fB11 t.b)] 23)).alloc (.cells #[.int .i64 (fitQ t), .slice vb ls.length vd] 30) = w6 at *
  have HS2 : Hid (wf2.heap.size = h ∧ w6.heap.size = h + 1 + 1 ∧ w4.heap.size ≤ h) := Lib.hid ⟨hg, by rw [hsz, hg], by omega⟩
  clear L1 s3 hXb hbb hsz bf1 F1 hl1
  rw [t1.out, t2.out, t3.out] at HR2
  have hGb := (bt.block g (by have := HS1.out; omega)).trans hG1
  have X6 := XX1.below bt (by have := HS1.out; omega)
  have L6 := LX1.below bt
  have HBw : Hid (Below w.heap.size w w6) := Lib.hid (by rw [hp.out]; exact B4.trans (bt.mono (by have := HS1.out; omega)))
  clear XX1 LX1 hG1 hG2 bt B4 D4 gst3 gle3 hos' hsz1 hg t1 t2 t3
  obtain ⟨n, sec, k, m, eK, eM, hG0⟩ := gm_fit r
  have hq1 : 1 ≤ fitQ r ∧ fitQ r ≤ 1099511627776 := (right_g HR1).2
  have hq2 : 1 ≤ fitQ t ∧ fitQ t ≤ 1099511627776 := (right_g HR2).2
  generalize fB11 r.b = B at *
  generalize fitQ r = q at *
  generalize fitQ t = qs at *
  generalize fK11 r.k = K at *
  generalize fM11 r.m = M at *
  subst eK
  subst eM
  have HG := Lib.hid hG0
  have small : ∀ (q : Int) (l : List St), rightB (k : Int) (m : Int) B q l = true → l.length ≤ 1000 := fun q l hR => by
    have := (body_len hG0 hR).2.1
    have h2 := hG0.rng
    have h3 := (body_len hG0 hR).1
    have h4 : l.length * 1 ≤ l.length * k := Nat.mul_le_mul_left _ h2.1
    omega
  have hln := small q l HR1
  have hls := small qs ls HR2
  have HR1 := Lib.hid HR1
  have HR2 := Lib.hid HR2
  have hkm := hG0.rng
  clear small hG0
  have cK := racks12_any HG.out w6
  have c0 : w6.cell? ⟨g, 0, none⟩ = some (.int .i64 (k : Int)) := heap_cell hGb rfl
  have c1 : w6.cell? ⟨g, 1, none⟩ = some (.int .i64 (m : Int)) := heap_cell hGb rfl
  have c2 : w6.cell? ⟨g, 2, none⟩ = some (.int .i64 B) := heap_cell hGb rfl
  go_wp2_with (fail)
  refine cK.mono ?_
  rintro e w7 ⟨S5, ka, wq, Sb, kb, rfl, a5, _, _, _⟩
  have X5 : RW w6 S5 w7 ka n g (g + 1) (k : Int) (m : Int) B q (.slice va l.length vc) l (R00 sec) := rw_new a5 hGb X6 L6 (fun y hy => by have := O1.out y hy; have := HS1.out; have := HS2.out; omega)
  have Y5 : RW w6 S5 w7 ka n g (h + 1) (k : Int) (m : Int) B qs (.slice vb ls.length vd) ls (R00 sec) := rw_new a5 hGb XX2 LX2 (fun y hy => by have := O2.out y hy; have := HS2.out; omega)
  clear c0 c1 c2 cK hGb X6 L6 XX2 LX2 a5 O1 O2
  have hn5 : ((n : Nat) : Int) = (k : Int) + (m : Int) := by have := HG.out.n; omega
  have HNK : Hid (((n : Nat) : Int) = (k : Int) + (m : Int) ∧ n = k + m ∧ 2 ≤ n ∧ n ≤ 7 ∧ k ≤ 4 ∧ m ≤ 3) := Lib.hid ⟨hn5, HG.out.n, by omega, by omega, by omega, by omega⟩
  have HAll : Hid (∀ W, Calls Tryz.prog 14 #[.agg #[.int .i64 (k : Int), .int .i64 (m : Int), .int .i64 B]] W (GivesZ W (allL n))) := Lib.hid fun W => by
    have := all12_any k m B W (by omega) (by omega)
    rw [← HG.out.n] at this
    exact this
  have HXY5 := Lib.hid (And.intro X5 Y5)
  obtain ⟨⟨c0, c1, c2⟩, c3, c4⟩ := X5.cells
  clear hn5 X5 Y5
  go_upto_block 0 with (fail)
  clear c0 c1 c2 c3 c4
  have hB7 : w7.heap.size ≤ w7.heap.size := Nat.le_refl _
  go_wp2_with (fail)
  go_loopw [17, 18, 19] (fun s17x t _ wr => ∃ (i : Nat) (s17 : Value), s17 = s17x ∧ i ≤ n ∧ t = .int .i64 (i : Int) ∧ Own wr w7.heap.size 3 s17 ((slL l3 n i).map (.int .i64)) ∧ Below w7.heap.size w7 wr) (fun _ t _ _ => n - (RowKit.intOf t).toNat)
  case atStart => exact ⟨0, _, rfl, Nat.zero_le _, rfl, Own.nil _ _ _, Below.refl _ _⟩
  case round =>
    obtain ⟨i, s17, rfl, hi, rfl, ho, hB⟩ := hrel
    rename World => wr
    by_cases hlt : i < n
    · have y1 : (i : Int) < (k : Int) + (m : Int) := by have := HNK.out.1; omega
      have HO0 : Hid (Own wr w7.heap.size 3 s17 ((slL l3 n i ++ (if nmJ l3 n i 0 = true then [(i : Int)] else [])).map (.int .i64)) ∧ Below w7.heap.size w7 wr) := Lib.hid ⟨by rw [show nmJ l3 n i 0 = false from rfl]; simpa using ho, hB⟩
      clear ho hB
      go_wp2_with (fail)
      go_loopw [17, 19] (fun s17x t wy => ∃ (j : Nat) (s17 : Value), s17 = s17x ∧ j ≤ l3.length ∧ j ≤ 20 ∧ t = .int .i64 (j : Int) ∧ Own wy w7.heap.size 3 s17 ((slL l3 n i ++ (if nmJ l3 n i j = true then [(i : Int)] else [])).map (.int .i64)) ∧ Below w7.heap.size w7 wy) (fun _ t _ => l3.length - (RowKit.intOf t).toNat)
      case atStart => exact ⟨0, _, rfl, Nat.zero_le _, by omega, rfl, HO0.out⟩
      case round =>
        clear HO0
        obtain ⟨j, s17', rfl, hj, hj20, rfl, ho, hB⟩ := hrel
        rename World => wy
        by_cases hjl : j < l3.length ∧ j < 20
        · obtain ⟨hjl, h20⟩ := hjl
          have z1 : (j : Int) < (l3.length : Int) := by omega
          have z2 : (j : Int) < 20 := by omega
          obtain ⟨va', vc', hv', hit⟩ := Reads.items HRl3.out.1
          obtain ⟨rfl, rfl⟩ : pa3 = va' ∧ pc3 = vc' := by injection hv' with z1 z2 z3; exact ⟨z1, z3⟩
          clear hv'
          obtain ⟨cb, co, rfl, hcb2, hc0⟩ := hit j hjl
          have hsu := nmJ_succ (n := n) (i := i) hjl
          obtain ⟨x, hx⟩ : ∃ x, l3[j] = x := ⟨_, rfl⟩
          have hxr := HRl3.out.2 l3[j] (List.getElem_mem hjl)
          rw [hx] at hc0 hxr hsu
          have cx : wy.cell? ⟨cb, co + j, none⟩ = some (.int .i64 x) := (((HBw.out.trans ((HXY5.out.1.after hB).jw.ra.b.mono HBw.out.size))).cell (p := ⟨cb, co + j, none⟩) hcb2).trans hc0
          obtain ⟨y, hy, hyn, hyN⟩ := pk_sumN x k m n HNK.out.2.1 (by have := HNK.out.2.2.1; omega)
          have cP : ∀ W, Calls Tryz.prog 12 #[.int .i64 x, .int .i64 ((k : Int) + (m : Int))] W fun e w' => e = .returned (.int .i64 (y : Int)) ∧ W = w' := fun W => by rw [← hy]; exact pick12_any x _ W hxr.1 hxr.2 (by omega) (by omega)
          rw [hyN] at hsu
          have hlen : (slL l3 n i).length ≤ 7 := by have := slL_len l3 n i; have := HNK.out; omega
          have hiI : 0 ≤ (i : Int) ∧ (i : Int) ≤ 7 := by have := HNK.out; omega
          have HB := Lib.hid hB
          clear hit hcb2 hc0 hx hxr hy hyN
          by_cases hyi : y = i
          · subst hyi
            rw [decide_eq_true rfl, Bool.or_true] at hsu
            have q0 : ((y : Int) == (y : Int)) = true := beq_self_eq_true _
            by_cases hh : nmJ l3 n y j = true
            · rw [if_pos hh] at ho
              obtain ⟨gq, gc, L, x', rfl, hLl, hcl, _, hla⟩ := own_last ho (by simp)
              rw [List.getLast?_append] at hla
              obtain rfl : (y : Int) = x' := by simpa using hla
              have hL7 : L ≤ 7 := by rw [List.length_append, List.length_singleton] at hLl; omega
              have HF := Lib.hid (show Own wy w7.heap.size 3 (.slice (some ⟨gq, 0, none⟩) (L + 1) gc) ((slL l3 n y ++ (if nmJ l3 n y (j + 1) = true then [(y : Int)] else [])).map (.int .i64)) by rw [if_pos hsu]; exact ho)
              clear ho hB hsu hh hLl hla hlen
              go_wp2_with (fail)
              refine (cP _).mono ?_
              rintro e wz ⟨rfl, rfl⟩
              clear cP cx
              go_wp2_with (fail)
              go_roundw
              case rel => exact ⟨j + 1, _, rfl, by omega, by omega, by go_num, HF.out, HB.out⟩
              case measure => simp [RowKit.intOf]; omega
            · rw [if_neg hh, List.append_nil] at ho
              obtain ⟨i3, q1, q2, q3, q4⟩ := info_parts Tryz.infoI
              obtain ⟨v8, w8, hap, o8, b8, _, _⟩ := Own.pushA (P := Tryz.prog) (T := 24) Tryz.underlying24 q1 q2 q3 q4 rfl ho (.int .i64 (y : Int)) rfl hB.size (by rw [List.length_map]; omega) (by rw [List.length_map]; omega)
              have hnx : (slL l3 n y).map (Value.int .i64) ++ [.int .i64 (y : Int)] = (slL l3 n y ++ (if nmJ l3 n y (j + 1) = true then [(y : Int)] else [])).map (Value.int .i64) := by rw [if_pos hsu, List.map_append]; rfl
              rw [hnx] at o8
              have HF := Lib.hid (And.intro o8 (hB.trans b8))
              clear o8 b8 hnx q1 q2 q3 q4
              rcases Nat.eq_zero_or_pos (slL l3 n y).length with h0 | h0
              · obtain ⟨ga, gc, hgf⟩ := ho.reads.form
                rw [List.length_map, h0] at hgf
                subst hgf
                clear ho hB hsu hh hlen h0
                go_wp2_with (at_builtin; refine wpList_append_run hap _ _ rfl rfl rfl rfl rfl ?_)
                refine (cP _).mono ?_
                rintro e wz ⟨rfl, rfl⟩
                clear cP cx
                go_wp2_with (at_builtin; refine wpList_append_run hap _ _ rfl rfl rfl rfl rfl ?_)
                go_roundw
                case rel => exact ⟨j + 1, _, rfl, by omega, by omega, by go_num, HF.out.1, HF.out.2⟩
                case measure => simp [RowKit.intOf]; omega
              · obtain ⟨gq, gc, L, x', rfl, hLl, hcl, hmem, hla⟩ := own_last ho h0
                have hx' := slL_lt x' hmem
                have hL7 : L ≤ 7 := by omega
                have hne : ¬ (x' = (y : Int)) := by omega
                have q5 : (x' == (y : Int)) = false := by rw [beq_eq_false_iff_ne]; exact hne
                have q6 : (x' != (y : Int)) = true := by simp [bne, q5]
                clear ho hB hsu hh hlen h0 hla hmem hLl
                go_wp2_with (at_builtin; refine wpList_append_run hap _ _ rfl rfl rfl rfl rfl ?_)
                refine (cP _).mono ?_
                rintro e wz ⟨rfl, rfl⟩
                clear cP cx
                go_wp2_with (at_builtin; refine wpList_append_run hap _ _ rfl rfl rfl rfl rfl ?_)
                go_roundw
                case rel => exact ⟨j + 1, _, rfl, by omega, by omega, by go_num, HF.out.1, HF.out.2⟩
                case measure => simp [RowKit.intOf]; omega
          · have hne : ¬ ((y : Int) = (i : Int)) := by omega
            have q0 : ((y : Int) == (i : Int)) = false := by rw [beq_eq_false_iff_ne]; exact hne
            rw [decide_eq_false hne, Bool.or_false] at hsu
            rw [← hsu] at ho
            have HF := Lib.hid ho
            clear ho hB hsu hlen hyi
            go_wp2_with (fail)
            refine (cP _).mono ?_
            rintro e wz ⟨rfl, rfl⟩
            clear cP cx
            go_wp2_with (fail)
            go_roundw
            case rel => exact ⟨j + 1, _, rfl, by omega, by omega, by go_num, HF.out, HB.out⟩
            case measure => simp [RowKit.intOf]; omega
        · have hal : nmJ l3 n i j = nmP l3 n (i : Int) := nmJ_all (by omega)
          rw [hal, ← slL_succ] at ho
          have HF := Lib.hid (And.intro ho hB)
          clear ho hB hal
          by_cases hw : j < l3.length
          · have z1 : (j : Int) < (l3.length : Int) := by omega
            have z2 : ¬ ((j : Int) < 20) := by omega
            clear hw hjl
            go_wp2_with (fail)
            go_roundw
            case rel => exact ⟨i + 1, _, rfl, by omega, by go_num, HF.out.1, HF.out.2⟩
            case measure => simp [RowKit.intOf]; omega
          · have z1 : ¬ ((j : Int) < (l3.length : Int)) := by omega
            clear hw hjl
            go_wp2_with (fail)
            go_roundw
            case rel => exact ⟨i + 1, _, rfl, by omega, by go_num, HF.out.1, HF.out.2⟩
            case measure => simp [RowKit.intOf]; omega
    · have hin : n = i := by omega
      subst hin
      have y1 : ¬ ((n : Int) < (k : Int) + (m : Int)) := by have := HNK.out.1; omega
      have X8 := HXY5.out.1.after hB
      have HY8 := Lib.hid (HXY5.out.2.after hB)
      obtain ⟨R1, hPT1, hK1, hP1⟩ := put_all (c := 0) HG.out (up_00 (by omega) (by omega)) HR1.out (fun j _ => rfl) (rok_00 n sec) (by omega) hln X8
      have HPT1 := Lib.hid (And.intro hPT1 hK1)
      have HP1 := Lib.hid hP1
      obtain ⟨sl, hsl⟩ : ∃ sl, slL l3 n n = sl := ⟨_, rfl⟩
      have HSl : Hid ((∀ x ∈ sl, 0 ≤ x ∧ x < (n : Int)) ∧ sl.Nodup ∧ sl.length ≤ n ∧ sl = (allL n).filter (nmP l3 n)) := Lib.hid ⟨by rw [← hsl]; exact slL_lt, by rw [← hsl]; exact slL_nodup _ _ _, by rw [← hsl]; exact slL_len _ _ _, hsl.symm⟩
      rw [hsl] at ho
      have HL8 : Hid (LsN wr S5 s17 sl ∧ capOk s17) := Lib.hid ⟨⟨ho.reads, fun _ q hq => ⟨(ho.o.lt q hq).2, fun z => by have := HXY5.out.1.jw.ra.lt q z; have := (ho.o.lt q hq).1; omega⟩⟩, ho.capOk⟩
      obtain ⟨pa4, pc4, hv4⟩ := ho.reads.form
      rw [List.length_map] at hv4
      subst hv4
      clear hPT1 hK1 hP1 hsl ho hB HXY5 HRl3
      go_upto_region 18 with (fail)
      refine wp_region_held_drew (S := fun W => W.heap[g]? = some (.cells #[.int .i64 (k : Int), .int .i64 (m : Int), .int .i64 B] 23 (0, 0)) ∧ W.cell? ⟨g + 1, 0, none⟩ = some (.int .i64 q) ∧ W.cell? ⟨g + 1, 1, none⟩ = some (.slice va l.length vc)) (by kernel_rfl) (X8.after (Below.drew_ wr)).bx (fun hHeld => ?_)
      refine wpAnyH_takeD (i := 0) (some 106) rfl (by kernel_rfl) (by kernel_rfl) (by kernel_rfl) rfl (fun _ _ _ h => h) (Or.inl ⟨by rfl, by rintro w hs1; first | rfl | (go_simp; done) | (go_simp; rfl)⟩) (by assumption) ?_
      simp only [Act.put, List.setIfInBounds_toArray, List.set_cons_zero, List.set_cons_succ]
      refine wpAnyH_takeD (i := 1) (v := .agg #[.int .i64 (k : Int), .int .i64 (m : Int), .int .i64 B]) (some 107) rfl (by kernel_rfl) (by kernel_rfl) (by kernel_rfl) rfl (fun _ _ _ h => h) (yieldsIf_load_run (by rfl) _ rfl rfl (fun _ hs => geo_load hs.1)) (by assumption) ?_
      simp only [Act.put, List.setIfInBounds_toArray, List.set_cons_zero, List.set_cons_succ]
      refine wpAnyH_takeD (i := 2) (v := .agg #[.int .i64 (k : Int), .int .i64 (m : Int), .int .i64 B]) (some 108) rfl (by kernel_rfl) (by kernel_rfl) (by kernel_rfl) rfl (fun _ _ _ h => h) (yieldsIf_load_run (by rfl) _ rfl rfl (fun _ hs => geo_load hs.1)) (by assumption) ?_
      simp only [Act.put, List.setIfInBounds_toArray, List.set_cons_zero, List.set_cons_succ]
      refine wpAnyH_takeD (i := 4) (v := .agg #[.int .i64 q, (.slice va l.length vc)]) (some 110) rfl (by kernel_rfl) (by kernel_rfl) (by kernel_rfl) rfl (fun _ _ _ h => h) (yieldsIf_load_run (by rfl) _ rfl rfl (fun _ hs => rec_load hs.2.1 hs.2.2)) (by assumption) ?_
      simp only [Act.put, List.setIfInBounds_toArray, List.set_cons_zero, List.set_cons_succ]
      refine wpAnyH_ready (rs := [3]) (by kernel_rfl) (by simp) ?_
      refine AllReadyH.cons rfl (fun K hK => ?_) AllReadyH.nil
      go_simp
      refine (HAll.out wr.drew).mono ?_
      rintro e z6 ⟨va6, rfl, oa6, ba6⟩
      have bb6 := (Below.drew_ wr).trans ba6
      have G6 := X8.after bb6
      have cPu := HP1.out z6 va6 bb6 (LsN.own oa6 fun q hq => X8.jw.ra.lt q hq) oa6.capOk
      clear oa6
      refine hK.out _ _ G6.bx (fun hHeld => ?_)
      clear hK
      try simp only [Act.put, List.setIfInBounds_toArray, List.set_cons_zero, List.set_cons_succ]
      refine wpAnyH_ready (rs := [5]) (by kernel_rfl) (by simp) ?_
      refine AllReadyH.cons rfl (fun K hK => ?_) AllReadyH.nil
      go_simp
      refine cPu.mono ?_
      rintro e w9 ⟨vw7, rfl, S9, s9, a9, ow7, nw7⟩
      obtain ⟨xw, yw, hfw0⟩ := ow7.reads.form
      have hfw : vw7 = .slice xw 0 yw := hfw0
      clear hfw0
      subst hfw
      have X9 := G6.stp s9 a9
      refine hK.out _ _ X9.bx (fun hHeld => ?_)
      clear hK
      try simp only [Act.put, List.setIfInBounds_toArray, List.set_cons_zero, List.set_cons_succ]
      refine wpAnyH_takeD (i := 6) (v := .tuple #[.slice xw 0 yw, .int .i64 0]) (some 105) rfl (by kernel_rfl) (by kernel_rfl) (by kernel_rfl) rfl (fun _ _ _ h => h) (Or.inl ⟨by rfl, by rintro w hs1; first | rfl | (go_simp; done) | (go_simp; rfl)⟩) (by assumption) ?_
      simp only [Act.put, List.setIfInBounds_toArray, List.set_cons_zero, List.set_cons_succ]
      refine wpAnyH_takeD (i := 7) (v := .slice xw 0 yw) (some 112) rfl (by kernel_rfl) (by kernel_rfl) (by kernel_rfl) rfl (fun _ _ _ h => h) (Or.inl ⟨by rfl, by rintro w hs1; first | rfl | (go_simp; done) | (go_simp; rfl)⟩) (by assumption) ?_
      simp only [Act.put, List.setIfInBounds_toArray, List.set_cons_zero, List.set_cons_succ]
      refine wpAnyH_takeD (i := 8) (v := .int .i64 0) (some 113) rfl (by kernel_rfl) (by kernel_rfl) (by kernel_rfl) rfl (fun _ _ _ h => h) (Or.inl ⟨by rfl, by rintro w hs1; first | rfl | (go_simp; done) | (go_simp; rfl)⟩) (by assumption) ?_
      simp only [Act.put, List.setIfInBounds_toArray, List.set_cons_zero, List.set_cons_succ]
      refine wpAnyH_takeD (i := 9) (v := .slice xw 0 yw) (some 20) rfl (by kernel_rfl) (by kernel_rfl) (by kernel_rfl) rfl (fun _ _ _ h => h) (Or.inl ⟨by rfl, by rintro w hs1; first | rfl | (go_simp; done) | (go_simp; rfl)⟩) (by assumption) ?_
      simp only [Act.put, List.setIfInBounds_toArray, List.set_cons_zero, List.set_cons_succ]
      refine wpAnyH_takeD (i := 10) (v := .int .i64 0) (some 21) rfl (by kernel_rfl) (by kernel_rfl) (by kernel_rfl) rfl (fun _ _ _ h => h) (Or.inl ⟨by rfl, by rintro w hs1; first | rfl | (go_simp; done) | (go_simp; rfl)⟩) (by assumption) ?_
      simp only [Act.put, List.setIfInBounds_toArray, List.set_cons_zero, List.set_cons_succ]
      refine wpAnyH_done (by kernel_rfl) ?_ _
      have st9 := (Stp.quiet bb6).trans s9
      clear hHeld cPu ow7 nw7 bb6 ba6 G6 s9 a9
      have Y9 := HY8.out.stp st9 X9.jw.ra
      have HL9 := Lib.hid (HL8.out.1.stp st9)
      have hf1 := put_alive HPT1.out.1 (fun j _ => rfl)
      obtain ⟨R2, hPu, hPT2⟩ := put_to (i := 9) HG.out HPT1.out.1.u HR2.out (by omega) (by omega) HSl.out.1 HSl.out.2.1
      have hK2 := put_ok (id := ((9 : Nat) : Int)) (K := (k : Int)) (M := (m : Int)) (B := B) (q := qs) (ss := ls) (l := sl) HPT1.out.2
      rw [hPu] at hK2
      have cPu2 : Calls Tryz.prog 13 #[.pointer (some ⟨ka, 0, none⟩), .int .i64 9, .agg #[.int .i64 (k : Int), .int .i64 (m : Int), .int .i64 B], .slice pa4 sl.length pc4, .agg #[.int .i64 qs, .slice vb ls.length vd]] w9 (EDoes w6 S9 w9 ka n (R2, [], 0)) := by
        have hP := put_law (sec := sec) (i := 9) (q := qs) (ss := ls) (l := sl) X9.jw.ra HPT1.out.2 (by omega) HL9.out HL8.out.2 (by have := HSl.out.2.2.1; have := HNK.out; omega) Y9.rl.r (by omega) (by omega) hPu
        rw [dead_none HSl.out.1 hf1] at hP
        exact hP
      have HPT2 := Lib.hid (And.intro hPT2 (hK2.le (show 0 + 1792 + 256 * sl.length ≤ 1000000000000 by have := HSl.out.2.2.1; have := HNK.out; omega)))
      obtain ⟨⟨c0, c1, c2⟩, _, _⟩ := X9.cells
      obtain ⟨_, c3, c4⟩ := Y9.cells
      have HXY9 := Lib.hid (And.intro X9 Y9)
      clear hPu hPT2 hK2 X9 Y9 hf1 HY8 HL8 HL9 st9 X8 HP1
      go_wp2_with (fail)
      refine cPu2.mono ?_
      rintro e w10 ⟨v10, rfl, S10, s10, a10, o10, n10⟩
      have X10 := HXY9.out.1.stp s10 a10
      have Y10 := HXY9.out.2.stp s10 a10
      obtain ⟨xw2, yw2, hfw0⟩ := o10.reads.form
      have hfw : v10 = .slice xw2 0 yw2 := hfw0
      clear hfw0
      subst hfw
      clear cPu2 HXY9 s10 a10 o10 n10 c0 c1 c2 c3 c4
      obtain ⟨_, c3, c4⟩ := X10.cells
      obtain ⟨bw, hbw⟩ : ∃ b, w10.heap.size = b := ⟨_, rfl⟩
      have ba : Below w10.heap.size w10 (w10.alloc (.cells #[.int .i64 q, .slice va l.length vc] 30)) := (Below.refl _ _).alloc (Nat.le_refl _) _
      have hWB := RBx.made w10 q (.slice va l.length vc) 30
      rw [hbw] at hWB
      have H11 : Hid ((RW w6 S10 (w10.alloc (.cells #[.int .i64 q, .slice va l.length vc] 30)) ka n g (g + 1) (k : Int) (m : Int) B q (.slice va l.length vc) l R2) ∧ (RW w6 S10 (w10.alloc (.cells #[.int .i64 q, .slice va l.length vc] 30)) ka n g (h + 1) (k : Int) (m : Int) B qs (.slice vb ls.length vd) ls R2) ∧ RBx (w10.alloc (.cells #[.int .i64 q, .slice va l.length vc] 30)) bw q (.slice va l.length vc) ∧ (w6.heap.size ≤ bw ∧ g ≠ bw ∧ g + 1 ≠ bw ∧ h + 1 ≠ bw ∧ ¬ S10 bw ∧ (∀ y, ((Value.slice va l.length vc).ownBlock = some y ∨ ∃ s ∈ l, s.v.ownBlock = some y) → y ≠ bw) ∧ ∀ y, ((Value.slice vb ls.length vd).ownBlock = some y ∨ ∃ s ∈ ls, s.v.ownBlock = some y) → y ≠ bw)) := Lib.hid ⟨X10.after ba, Y10.after ba, hWB, by have := X10.jw.ra.b.size; omega, by have := X10.jw.gl; omega, by have := X10.rb.lt; omega, by have := Y10.rb.lt; omega, fun z => by have := X10.jw.ra.lt bw z; omega, fun y hy => by have := (X10.rl.n y hy).1; omega, fun y hy => by have := (Y10.rl.n y hy).1; omega⟩
      clear ba hWB X10 Y10
      go_upto_region 21 with (fail)
      generalize w10.alloc (.cells #[.int .i64 q, .slice va l.length vc] 30) = w11 at *
      clear c3 c4 hbw
      obtain ⟨_, c3, c4⟩ := H11.out.1.cells
      obtain ⟨_, d3, d4⟩ := H11.out.2.1.cells
      have hlnn : sl.length ≤ n := HSl.out.2.2.1
      go_cut [147] from 123 to 146 (fun s147 wx => ∃ c : Bool, s147 = .bool c ∧ (c = true ↔ (sl.length = n ∧ qs % 2 = q % 2) ∨ (0 < sl.length ∧ q < qs)) ∧ w11 = wx)
      case first =>
        have p1 : qs % 2 = 0 ∨ qs % 2 = 1 := by omega
        have p2 : q % 2 = 0 ∨ q % 2 = 1 := by omega
        have p1' : qs.tmod 2 = qs % 2 := Int.tmod_eq_emod_of_nonneg (by omega)
        have p2' : q.tmod 2 = q % 2 := Int.tmod_eq_emod_of_nonneg (by omega)
        clear H11
        by_cases hA : sl.length = n
        · have e1 : ((sl.length : Int)) = (k : Int) + (m : Int) := by have := HNK.out.1; omega
          have e2 : ((sl.length : Int) == (k : Int) + (m : Int)) = true := by rw [e1]; exact beq_self_eq_true _
          have e3 : (0 : Int) < (sl.length : Int) := by have := HNK.out; omega
          by_cases hP : qs % 2 = q % 2
          · have hWn : (sl.length = n ∧ qs % 2 = q % 2) ∨ (0 < sl.length ∧ q < qs) := .inl ⟨hA, hP⟩
            rcases p1 with p1 | p1 <;> rcases p2 with p2 | p2 <;> first | (exfalso; omega) | skip
            all_goals rw [p1] at p1'
            all_goals rw [p2] at p2'
            all_goals clear hA hP
            · go_wp2_with (fail)
              go_meet
              exact ⟨true, rfl, ⟨fun _ => hWn, fun _ => rfl⟩, rfl⟩
            · go_wp2_with (fail)
              go_meet
              exact ⟨true, rfl, ⟨fun _ => hWn, fun _ => rfl⟩, rfl⟩
          · by_cases hQ : q < qs
            · have hWn : (sl.length = n ∧ qs % 2 = q % 2) ∨ (0 < sl.length ∧ q < qs) := .inr ⟨by omega, hQ⟩
              rcases p1 with p1 | p1 <;> rcases p2 with p2 | p2 <;> first | (exfalso; omega) | skip
              all_goals rw [p1] at p1'
              all_goals rw [p2] at p2'
              all_goals clear hA hP
              · go_wp2_with (fail)
                go_meet
                exact ⟨true, rfl, ⟨fun _ => hWn, fun _ => rfl⟩, rfl⟩
              · go_wp2_with (fail)
                go_meet
                exact ⟨true, rfl, ⟨fun _ => hWn, fun _ => rfl⟩, rfl⟩
            · have hWn : ¬ ((sl.length = n ∧ qs % 2 = q % 2) ∨ (0 < sl.length ∧ q < qs)) := fun z => z.elim (fun y => hP y.2) (fun y => hQ y.2)
              rcases p1 with p1 | p1 <;> rcases p2 with p2 | p2 <;> first | (exfalso; omega) | skip
              all_goals rw [p1] at p1'
              all_goals rw [p2] at p2'
              all_goals clear hA hP
              · go_wp2_with (fail)
                go_meet
                exact ⟨false, rfl, ⟨fun z => Bool.noConfusion z, fun z => absurd z hWn⟩, rfl⟩
              · go_wp2_with (fail)
                go_meet
                exact ⟨false, rfl, ⟨fun z => Bool.noConfusion z, fun z => absurd z hWn⟩, rfl⟩
        · have e1 : ¬ ((sl.length : Int) = (k : Int) + (m : Int)) := by have := HNK.out.1; omega
          have e2 : ((sl.length : Int) == (k : Int) + (m : Int)) = false := by rw [beq_eq_false_iff_ne]; exact e1
          by_cases h0 : 0 < sl.length
          · have e3 : (0 : Int) < (sl.length : Int) := by omega
            by_cases hQ : q < qs
            · have hWn : (sl.length = n ∧ qs % 2 = q % 2) ∨ (0 < sl.length ∧ q < qs) := .inr ⟨h0, hQ⟩
              clear p1 p2 p1' p2' hA h0
              go_wp2_with (fail)
              go_meet
              exact ⟨true, rfl, ⟨fun _ => hWn, fun _ => rfl⟩, rfl⟩
            · have hWn : ¬ ((sl.length = n ∧ qs % 2 = q % 2) ∨ (0 < sl.length ∧ q < qs)) := fun z => z.elim (fun y => hA y.1) (fun y => hQ y.2)
              clear p1 p2 p1' p2' hA h0
              go_wp2_with (fail)
              go_meet
              exact ⟨false, rfl, ⟨fun z => Bool.noConfusion z, fun z => absurd z hWn⟩, rfl⟩
          · have e3 : ¬ ((0 : Int) < (sl.length : Int)) := by omega
            have hWn : ¬ ((sl.length = n ∧ qs % 2 = q % 2) ∨ (0 < sl.length ∧ q < qs)) := fun z => z.elim (fun y => hA y.1) (fun y => h0 y.1)
            clear p1 p2 p1' p2' hA h0
            go_wp2_with (fail)
            go_meet
            exact ⟨false, rfl, ⟨fun z => Bool.noConfusion z, fun z => absurd z hWn⟩, rfl⟩
      case rest =>
      obtain ⟨cW, rfl, hcW, rfl⟩ := hcut
      have fb0 := H11.out.2.2.1.f0
      have fb1 := H11.out.2.2.1.f1
      have bc0 := H11.out.2.2.1.c0
      have bc1 := H11.out.2.2.1.c1
      go_upto_if 147 with (fail)
      go_cut [] from 148 to 148 (fun wx => (RW w6 S10 wx ka n g (g + 1) (k : Int) (m : Int) B q (.slice va l.length vc) l R2) ∧ (RW w6 S10 wx ka n g (h + 1) (k : Int) (m : Int) B qs (.slice vb ls.length vd) ls R2) ∧ ((((sl.length = n ∧ qs % 2 = q % 2) ∨ (0 < sl.length ∧ q < qs)) ∧ RBx wx bw qs (.slice vb ls.length vd)) ∨ (¬ ((sl.length = n ∧ qs % 2 = q % 2) ∨ (0 < sl.length ∧ q < qs)) ∧ RBx wx bw q (.slice va l.length vc))))
      case first =>
        cases cW
        · have hWn : ¬ ((sl.length = n ∧ qs % 2 = q % 2) ∨ (0 < sl.length ∧ q < qs)) := fun z => Bool.noConfusion (hcW.2 z)
          have HF := Lib.hid (And.intro H11.out.1 (And.intro H11.out.2.1 (And.intro hWn H11.out.2.2.1)))
          clear H11 hcW hWn
          go_wp2_with (fail)
          go_meet
          exact ⟨HF.out.1, HF.out.2.1, .inr HF.out.2.2⟩
        · have hWn : (sl.length = n ∧ qs % 2 = q % 2) ∨ (0 < sl.length ∧ q < qs) := hcW.1 rfl
          have P := H11.out.2.2.2
          have HF := Lib.hid (And.intro ((H11.out.1.put P.1 P.2.1 P.2.2.1 P.2.2.2.2.1 P.2.2.2.2.2.1 0 (.int .i64 qs)).put P.1 P.2.1 P.2.2.1 P.2.2.2.2.1 P.2.2.2.2.2.1 1 (.slice vb ls.length vd)) (And.intro ((H11.out.2.1.put P.1 P.2.1 P.2.2.2.1 P.2.2.2.2.1 P.2.2.2.2.2.2 0 (.int .i64 qs)).put P.1 P.2.1 P.2.2.2.1 P.2.2.2.2.1 P.2.2.2.2.2.2 1 (.slice vb ls.length vd)) (And.intro hWn (H11.out.2.2.1.put qs (.slice vb ls.length vd)))))
          clear H11 hcW hWn P c3 c4
          go_wp2_with (fail)
          go_meet
          exact ⟨HF.out.1, HF.out.2.1, .inl HF.out.2.2⟩
      case rest =>
      obtain ⟨hX, hY, hWt⟩ := hcut
      rename World => w12
      have H12 := Lib.hid (And.intro hX (And.intro hY hWt))
      clear hX hY hWt H11 fb0 fb1 bc0 bc1 c3 c4 d3 d4 hcW
      obtain ⟨tn, htn, htl⟩ := pk_sumO turn k m n HNK.out.2.1 (by have := HNK.out.2.2.1; omega)
      have cP : ∀ W, Calls Tryz.prog 12 #[.int .i64 turn, .int .i64 ((k : Int) + (m : Int))] W fun e w' => e = .returned (.int .i64 (tn : Int)) ∧ W = w' := fun W => by rw [← htn]; exact pick12_any turn _ W bt0.1 bt0.2 (by omega) (by omega)
      clear htn
      go_wp2_with (fail)
      go_loopw [25, 26] (fun s25x t wr => ∃ (i : Nat) (s25 : Value), s25 = s25x ∧ i ≤ n ∧ t = .int .i64 (i : Int) ∧ Own wr w12.heap.size 3 s25 ((rotL n tn i).map (.int .i64)) ∧ Below w12.heap.size w12 wr) (fun _ t _ => n - (RowKit.intOf t).toNat)
      case atStart => exact ⟨0, _, rfl, Nat.zero_le _, rfl, Own.nil _ _ _, Below.refl _ _⟩
      case round =>
        obtain ⟨i, s25, rfl, hi, rfl, ho, hB⟩ := hrel
        rename World => wr
        by_cases hlt : i < n
        · have y1 : (i : Int) < (k : Int) + (m : Int) := by have := HNK.out.1; omega
          obtain ⟨z, hz⟩ : ∃ z, (i + tn) % n = z := ⟨_, rfl⟩
          have hmod : ((i : Int) + (tn : Int)) % ((k : Int) + (m : Int)) = (z : Int) := by rw [show (k : Int) + (m : Int) = ((n : Nat) : Int) from HNK.out.1.symm, ← hz]; rfl
          have hmod2 : ((i : Int) + (tn : Int)).tmod ((k : Int) + (m : Int)) = (z : Int) := by rw [Int.tmod_eq_emod_of_nonneg (by omega)]; exact hmod
          have hm3 : ¬ ((k : Int) + (m : Int) = 0) := by omega
          have hm4 : ((k : Int) + (m : Int) == 0) = false := by rw [beq_eq_false_iff_ne]; exact hm3
          have hi7 : i ≤ 7 ∧ tn ≤ 7 := by have := HNK.out; omega
          obtain ⟨i3, q1, q2, q3, q4⟩ := info_parts Tryz.infoI
          obtain ⟨v8, w8, hap, o8, b8, _, _⟩ := Own.pushA (P := Tryz.prog) (T := 24) Tryz.underlying24 q1 q2 q3 q4 rfl ho (.int .i64 (z : Int)) rfl hB.size (by rw [List.length_map, rotL_len]; omega) (by rw [List.length_map, rotL_len]; omega)
          have hnx : (rotL n tn i).map (Value.int .i64) ++ [.int .i64 (z : Int)] = (rotL n tn (i + 1)).map (Value.int .i64) := by rw [rotL_succ, List.map_append, hz]; rfl
          rw [hnx] at o8
          have HO := Lib.hid (And.intro o8 (hB.trans b8))
          clear o8 b8 hnx ho hB q1 q2 q3 q4 hz
          go_wp2_with (at_builtin; refine wpList_append_run hap _ _ rfl rfl rfl rfl rfl ?_)
          refine (cP _).mono ?_
          rintro e wz ⟨rfl, rfl⟩
          go_wp2_with (at_builtin; refine wpList_append_run hap _ _ rfl rfl rfl rfl rfl ?_)
          go_roundw
          case rel => exact ⟨i + 1, _, rfl, by omega, by go_num, HO.out.1, HO.out.2⟩
          case measure => simp [RowKit.intOf]; omega
        · have hin : n = i := by omega
          subst hin
          have y1 : ¬ ((n : Int) < (k : Int) + (m : Int)) := by have := HNK.out.1; omega
          obtain ⟨ga, gc, hgf⟩ := ho.reads.form
          rw [List.length_map, rotL_len] at hgf
          subst hgf
          have X13 := H12.out.1.after hB
          have HX13 := Lib.hid (And.intro X13 (H12.out.2.1.after hB))
          have hn0 := HNK.out.2.2.1
          have hLs : LsN wr S10 (.slice ga n gc) (rotL n tn n) := ⟨ho.reads, fun _ q hq => ⟨(ho.o.lt q hq).2, fun z => by have := H12.out.1.jw.ra.lt q z; have := (ho.o.lt q hq).1; omega⟩⟩
          have HLs := Lib.hid (And.intro hLs ho.capOk)
          have HWt : Hid ((((sl.length = n ∧ qs % 2 = q % 2) ∨ (0 < sl.length ∧ q < qs)) ∧ RBx wr bw qs (.slice vb ls.length vd)) ∨ (¬ ((sl.length = n ∧ qs % 2 = q % 2) ∨ (0 < sl.length ∧ q < qs)) ∧ RBx wr bw q (.slice va l.length vc))) := Lib.hid (H12.out.2.2.elim (fun z => .inl ⟨z.1, z.2.heap (hB.block bw z.2.lt) hB.size⟩) (fun z => .inr ⟨z.1, z.2.heap (hB.block bw z.2.lt) hB.size⟩))
          obtain ⟨Y, hBest, hTwo, hWhich⟩ := newer_best HG.out HR1.out HR2.out HPT1.out.1 HPT2.out.1 (ord := rotL n tn n) (rotL_rng (by omega)) (fun j hj => rotL_all htl hj) _ HSl.out.2.2.2
          obtain ⟨qy, py⟩ := Y
          have cL9 : Calls Tryz.prog 19 #[.pointer (some ⟨ka, 0, none⟩), .int .i64 9, .agg #[.int .i64 (k : Int), .int .i64 (m : Int), .int .i64 B], .slice ga n gc] wr (LastTo wr (some (qy, py), 0)) := by
            have := best_law (i := 9) HG.out HPT2.out.1.u (by omega) (by omega) X13.jw.ra HPT2.out.2 hLs ho.capOk (by rw [rotL_len]; omega) (rotL_rng (by omega)) rotL_nodup
            rw [show bestM n R2 ((9 : Nat) : Int) (k : Int) (m : Int) B (rotL n tn n) = _ from hBest] at this
            exact this
          have cL9' := last_some cL9
          have HTw := Lib.hid (And.intro hTwo hWhich)
          have hNone := newer_none HG.out HR1.out HR2.out HPT1.out.1 HPT2.out.1 (ord := rotL n tn n) (rotL_rng (by omega))
          have cL10 : Hid (∀ W, Below wr.heap.size wr W → Calls Tryz.prog 19 #[.pointer (some ⟨ka, 0, none⟩), .int .i64 10, .agg #[.int .i64 (k : Int), .int .i64 (m : Int), .int .i64 B], .slice ga n gc] W fun e w' => ∃ a c, e = .returned (.tuple #[.agg #[.int .i64 0, .slice a 0 c], .bool false, .int .i64 0]) ∧ Below W.heap.size W w') := Lib.hid fun W hW => by
            have := best_law (i := 10) HG.out HPT2.out.1.u (by omega) (by omega) (HX13.out.1.after hW).jw.ra HPT2.out.2 (HLs.out.1.after hW) HLs.out.2 (by rw [rotL_len]; omega) (rotL_rng (by omega)) rotL_nodup
            rw [show bestM n R2 ((10 : Nat) : Int) (k : Int) (m : Int) B (rotL n tn n) = _ from hNone] at this
            exact last_none this
          obtain ⟨⟨c0, c1, c2⟩, _, _⟩ := X13.cells
          clear hLs ho hB X13 H12 hBest hTwo hWhich cL9 hNone
          go_wp2_with (fail)
          refine cL9'.mono ?_
          rintro e wa ⟨vt, lt, rfl, ft, hpt, bt⟩
          obtain ⟨xt, yt, rfl⟩ := ft.isSlice
          have ba : Below wa.heap.size wa (wa.alloc (.cells #[.int .i64 qy, .slice xt lt.length yt] 30)) := (Below.refl _ _).alloc (Nat.le_refl _) _
          have hTB := RBx.made wa qy (.slice xt lt.length yt) 30
          obtain ⟨tb, htb⟩ : ∃ b, wa.heap.size = b := ⟨_, rfl⟩
          rw [htb] at hTB
          have bwa := bt.trans (ba.mono bt.size)
          have hsm : ∀ s ∈ lt, s.d.length ≤ 140737488355328 ∧ ∀ t ∈ s.d, t.size ≤ 140737488355328 := by
            rcases HTw.out.1 with e | e
            · injection e with e1 e2
              rw [e2] at hpt
              exact (pr_facts hpt (right_reads HR1.out) 0).2.2
            · injection e with e1 e2
              rw [e2] at hpt
              exact (pr_facts hpt (right_reads HR2.out) 0).2.2
          have hTS := (ft.reads hsm).below ba
          have cL := cL10.out _ bwa
          have HT := Lib.hid (And.intro hTB (And.intro hTS (And.intro hpt bwa)))
          obtain ⟨⟨d0, d1, d2⟩, _, _⟩ := (HX13.out.1.after bwa).cells
          clear cL9' ft bt ba bwa hsm hTB hTS hpt c0 c1 c2
          go_wp2_with (fail)
          refine cL.mono ?_
          rintro e wb ⟨x10, y10, rfl, b10⟩
          have bb : Below wb.heap.size wb (wb.alloc (.cells #[.int .i64 0, .slice x10 0 y10] 30)) := (Below.refl _ _).alloc (Nat.le_refl _) _
          have bab := b10.trans (bb.mono b10.size)
          have HT2 : Hid (TBx (wb.alloc (.cells #[.int .i64 0, .slice x10 0 y10] 30)) tb qy xt yt lt ∧ lt.map pr = py) := Lib.hid ⟨⟨HT.out.1.heap (bab.block tb HT.out.1.lt) bab.size, HT.out.2.1.below bab⟩, HT.out.2.2.1⟩
          have bwb := HT.out.2.2.2.trans (bab.mono HT.out.2.2.2.size)
          have HX15 := Lib.hid (And.intro (HX13.out.1.after bwb) (HX13.out.2.after bwb))
          have HWt2 : Hid ((((sl.length = n ∧ qs % 2 = q % 2) ∨ (0 < sl.length ∧ q < qs)) ∧ RBx (wb.alloc (.cells #[.int .i64 0, .slice x10 0 y10] 30)) bw qs (.slice vb ls.length vd)) ∨ (¬ ((sl.length = n ∧ qs % 2 = q % 2) ∨ (0 < sl.length ∧ q < qs)) ∧ RBx (wb.alloc (.cells #[.int .i64 0, .slice x10 0 y10] 30)) bw q (.slice va l.length vc))) := Lib.hid (HWt.out.elim (fun z => .inl ⟨z.1, z.2.heap (bwb.block bw z.2.lt) bwb.size⟩) (fun z => .inr ⟨z.1, z.2.heap (bwb.block bw z.2.lt) bwb.size⟩))
          clear cL b10 bb bab HT bwb HX13 HWt d0 d1 d2 cL10
          go_upto_region 30 with (fail)
          generalize wb.alloc (.cells #[.int .i64 0, .slice x10 0 y10] 30) = w15 at *
          clear htb
          obtain ⟨_, c3, c4⟩ := HX15.out.1.cells
          obtain ⟨_, d3, d4⟩ := HX15.out.2.cells
          go_cut [195] from 180 to 194 (fun s195 wx => ∃ c : Bool, s195 = .bool c ∧ (c = true ↔ (0 < sl.length ∧ sl.length < n ∧ qs = q)) ∧ w15 = wx)
          case first =>
            clear HT2 HX15 HWt2 c4 d4
            by_cases h0 : 0 < sl.length
            · have e3 : (0 : Int) < (sl.length : Int) := by omega
              by_cases h1 : sl.length < n
              · have e4 : (sl.length : Int) < (k : Int) + (m : Int) := by have := HNK.out.1; omega
                by_cases h2 : qs = q
                · have e5 : (qs == q) = true := by rw [h2]; exact beq_self_eq_true _
                  have hH : 0 < sl.length ∧ sl.length < n ∧ qs = q := ⟨h0, h1, h2⟩
                  have HH := Lib.hid hH
                  clear h0 h1 h2 hH
                  go_wp2_with (fail)
                  go_meet
                  exact ⟨true, by simp [HH.out.2.2], ⟨fun _ => HH.out, fun _ => rfl⟩, rfl⟩
                · have e5 : (qs == q) = false := by rw [beq_eq_false_iff_ne]; exact h2
                  have HH : Hid (¬ (0 < sl.length ∧ sl.length < n ∧ qs = q)) := Lib.hid fun z => h2 z.2.2
                  clear h0 h1 h2
                  go_wp2_with (fail)
                  go_meet
                  exact ⟨false, rfl, ⟨fun z => Bool.noConfusion z, fun z => absurd z HH.out⟩, rfl⟩
              · have e4 : ¬ ((sl.length : Int) < (k : Int) + (m : Int)) := by have := HNK.out.1; omega
                have HH : Hid (¬ (0 < sl.length ∧ sl.length < n ∧ qs = q)) := Lib.hid fun z => h1 z.2.1
                clear h0 h1
                go_wp2_with (fail)
                go_meet
                exact ⟨false, rfl, ⟨fun z => Bool.noConfusion z, fun z => absurd z HH.out⟩, rfl⟩
            · have e3 : ¬ ((0 : Int) < (sl.length : Int)) := by omega
              have HH : Hid (¬ (0 < sl.length ∧ sl.length < n ∧ qs = q)) := Lib.hid fun z => h0 z.1
              clear h0
              go_wp2_with (fail)
              go_meet
              exact ⟨false, rfl, ⟨fun z => Bool.noConfusion z, fun z => absurd z HH.out⟩, rfl⟩
          case rest =>
          obtain ⟨cH, rfl, hcH, rfl⟩ := hcut
          have hfin : Hid (∀ W, Below w15.heap.size w15 W → Below w.heap.size w W) := Lib.hid fun W hW => HBw.out.trans ((HX15.out.1.after hW).jw.ra.b.mono HBw.out.size)
          have t0 := HT2.out.1.1.c0
          have t1 := HT2.out.1.1.c1
          cases cH
          · have hno : ¬ (0 < sl.length ∧ sl.length < n ∧ qs = q) := fun z => Bool.noConfusion (hcH.2 z)
            have hy := HTw.out.2 hno
            rcases HWt2.out with ⟨hW, hb⟩ | ⟨hW, hb⟩
            · rw [if_pos hW] at hy
              injection hy with hy1 hy2
              have hpt := HT2.out.2
              rw [hy2] at hpt
              have hF := pr_facts hpt (right_reads HR2.out) qs
              have cSm := rsame11_any qs qs (.slice xt lt.length yt) (.slice vb ls.length vd) lt ls w15 HT2.out.1.2 HX15.out.2.rl.r (by rw [hF.2.1]; omega)
              rw [hF.1] at cSm
              have u0 := hb.c0
              have u1 := hb.c1
              rw [hy1] at t0
              clear hy1 hy2 hpt hF hb hW hno hcH HX15 HT2 HWt2 HTw c3 c4 d3 d4
              go_wp2_with (fail)
              refine cSm.mono ?_
              rintro e wz ⟨rfl, bz⟩
              clear cSm t0 t1 u0 u1
              go_wp2_with (fail)
              go_ret
              exact ⟨rfl, hfin.out _ bz⟩
            · rw [if_neg hW] at hy
              injection hy with hy1 hy2
              have hpt := HT2.out.2
              rw [hy2] at hpt
              have hF := pr_facts hpt (right_reads HR1.out) q
              have cSm := rsame11_any q q (.slice xt lt.length yt) (.slice va l.length vc) lt l w15 HT2.out.1.2 HX15.out.1.rl.r (by rw [hF.2.1]; omega)
              rw [hF.1] at cSm
              have u0 := hb.c0
              have u1 := hb.c1
              rw [hy1] at t0
              clear hy1 hy2 hpt hF hb hW hno hcH HX15 HT2 HWt2 HTw c3 c4 d3 d4
              go_wp2_with (fail)
              refine cSm.mono ?_
              rintro e wz ⟨rfl, bz⟩
              clear cSm t0 t1 u0 u1
              go_wp2_with (fail)
              go_ret
              exact ⟨rfl, hfin.out _ bz⟩
          · have hlt30 : lt.length ≤ 1000 := by
              rcases HTw.out.1 with e | e
              · injection e with _ e2
                have hp := HT2.out.2
                rw [e2] at hp
                have := (pr_facts hp (right_reads HR1.out) q).2.1; omega
              · injection e with _ e2
                have hp := HT2.out.2
                rw [e2] at hp
                have := (pr_facts hp (right_reads HR2.out) q).2.1; omega
            have cS1 := rsame11_any qy q (.slice xt lt.length yt) (.slice va l.length vc) lt l w15 HT2.out.1.2 HX15.out.1.rl.r (by omega)
            have hS2 : Hid (sameB qy lt q l = false → sameB qy lt qs ls = true) := Lib.hid fun hf => by
              rcases HTw.out.1 with e | e
              · exfalso
                injection e with e1 e2
                have hp := HT2.out.2
                rw [e2] at hp
                rw [e1, (pr_facts hp (right_reads HR1.out) q).1] at hf
                cases hf
              · injection e with e1 e2
                have hp := HT2.out.2
                rw [e2] at hp
                rw [e1]
                exact (pr_facts hp (right_reads HR2.out) qs).1
            obtain ⟨b1, hb1⟩ : ∃ b, sameB qy lt q l = b := ⟨_, rfl⟩
            rw [hb1] at cS1 hS2
            have cS2 : Hid (∀ W, Below w15.heap.size w15 W → b1 = false → (W.cell? ⟨tb, 0, none⟩ = some (.int .i64 qy) ∧ W.cell? ⟨tb, 1, none⟩ = some (.slice xt lt.length yt)) ∧ (W.cell? ⟨h + 1, 0, none⟩ = some (.int .i64 qs) ∧ W.cell? ⟨h + 1, 1, none⟩ = some (.slice vb ls.length vd)) ∧ Calls Tryz.prog 20 #[.agg #[.int .i64 qy, .slice xt lt.length yt], .agg #[.int .i64 qs, .slice vb ls.length vd]] W (Tells W (.bool true))) := Lib.hid fun W hW hf => by
              have hY := HX15.out.2.after hW
              have hT := HT2.out.1.1.heap (hW.block tb HT2.out.1.1.lt) hW.size
              have := rsame11_any qy qs (.slice xt lt.length yt) (.slice vb ls.length vd) lt ls W (HT2.out.1.2.below hW) hY.rl.r (by omega)
              rw [hS2.out hf] at this
              exact ⟨⟨hT.c0, hT.c1⟩, ⟨hY.rb.c0, hY.rb.c1⟩, this⟩
            clear hb1 hS2 hcH HX15 HT2 HWt2 HTw d3 d4 hlt30
            go_wp2_with (fail)
            refine cS1.mono ?_
            rintro e wz ⟨rfl, bz⟩
            clear cS1 t0 t1 c3 c4
            cases b1
            · obtain ⟨⟨u0, u1⟩, ⟨u2, u3⟩, cSm⟩ := cS2.out wz bz rfl
              clear cS2
              go_wp2_with (fail)
              refine cSm.mono ?_
              rintro e wy ⟨rfl, by1⟩
              clear cSm u0 u1 u2 u3
              go_wp2_with (fail)
              go_ret
              exact ⟨rfl, hfin.out _ (bz.trans (by1.mono bz.size))⟩
            · clear cS2
              go_wp2_with (fail)
              go_ret
              exact ⟨rfl, hfin.out _ bz⟩
end Go.Proofs.YtfadglcpapiklaaGreatDoor
