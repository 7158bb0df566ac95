/- journal: JournalCopies. -/
import Derived.Test.YtfadglcpapiklaaGreatDoorJrnCoM
import Derived.Test.YtfadglcpapiklaaGreatDoorJrnFg
import Derived.Test.YtfadglcpapiklaaGreatDoorJrnTail
namespace Go.Proofs.YtfadglcpapiklaaGreatDoor
open Go.RowKit
open Rc
set_option linter.unusedVariables false
set_option linter.unusedSimpArgs false
set_option maxRecDepth 100000

theorem pk_sum' (c : Int) (k m n : Nat) (hn : n = k + m) (h1 : 1 ≤ n) : ∃ j : Nat, pk11 c ((k : Int) + (m : Int)) = (j : Int) ∧ j < n := by
  obtain ⟨j, e, h⟩ := pk_nat c n h1
  exact ⟨j, by rw [← e, hn, Int.natCast_add], h⟩
theorem vn_upf {n : Nat} {R : Rk} {c j : Nat} (h : ROk n R c) : ROk n (upR n R (j : Int) faM) c ∧ ROk n (upR n R (j : Int) blM) c ∧ ∀ a b d : Int, ROk n (upR n R (j : Int) fun M => roM M a b d) c :=
  ⟨rok_up h _ _ fun M _ => Vn.none _ _ _, rok_up h _ _ fun M _ => Vn.none _ _ _, fun a b d => rok_up h _ _ fun M hM => by unfold roM; split <;> exact hM⟩
set_option maxHeartbeats 4000000 in
theorem jcopies_walk (r : Raw) (vs vl : Value) (keep0 : Int) (v2 : Value) (l2 : List Int) (at0 bits0 : Int) (w : World) (hok : RawOk r) (hst : Reads w vs (r.st.map (.int .i64))) (hle : Reads w vl (r.le.map (.int .i64))) (bk0 : -9223372036854775808 ≤ keep0 ∧ keep0 ≤ 9223372036854775807) (Rl2 : Reads w v2 (l2.map (.int .i64))) (Fl2 : ∀ x ∈ l2, -9223372036854775808 ≤ x ∧ x ≤ 9223372036854775807) (Nl2 : l2.length ≤ 9223372036854775806) (ba0 : -9223372036854775808 ≤ at0 ∧ at0 ≤ 9223372036854775807) (bb0 : -9223372036854775808 ≤ bits0 ∧ bits0 ≤ 9223372036854775807) :
    Calls Tryz.prog 3 #[r.v vs vl, .int .i64 keep0, v2, .int .i64 at0, .int .i64 bits0] w fun e w' => e = .returned (.bool true) ∧ Below w.heap.size w w' := by
  obtain ⟨pa2, pc2, hv2⟩ := Rl2.form
  rw [List.length_map] at hv2
  subst hv2
  have HRl2 := Lib.hid (And.intro Rl2 Fl2)
  clear Rl2 Fl2
  obtain ⟨p, hp⟩ : ∃ p, w.heap.size = p := ⟨_, rfl⟩
  have A0 := RwB.made w r vs vl 26
  have b0 : Below p w (w.alloc (.cells #[.int .i64 r.k, .int .i64 r.m, .int .i64 r.b, .int .i64 r.q, vs, vl] 26)) := (Below.refl _ _).alloc (by omega) _
  rw [hp] at A0
  have hst1 := hst.below (by rw [hp]; exact b0)
  have hle1 := hle.below (by rw [hp]; exact b0)
  clear hst hle
  unfold Raw.v
  go_enter Tryz.func3, Tryz.ntmps3
  go_wp2_with (fail)
  replace hp := Lib.hid hp
  generalize w.alloc (.cells #[.int .i64 r.k, .int .i64 r.m, .int .i64 r.b, .int .i64 r.q, vs, vl] 26) = w0 at *
  refine (awake12_any _).mono ?_
  rintro e w1 ⟨rfl, b1⟩
  have A1 := A0.below b1 A0.lt
  have B1 := b0.trans (b1.mono (by have := A0.lt; omega))
  have hst2 := hst1.below b1
  have hle2 := hle1.below b1
  obtain ⟨sa, sc, hvs⟩ := hst2.isSlice
  obtain ⟨la, lc, hvl⟩ := hle2.isSlice
  rw [List.length_map] at hvs hvl
  subst hvs
  subst hvl
  clear A0 b0 b1 hst1 hle1
  have e0 := A1.a0
  have e1 := A1.a1
  have e2 := A1.a2
  have e3 := A1.a3
  have e4 := A1.a4
  have e5 := A1.a5
  have cF := fit11_any r _ _ w1 hok hst2 hle2
  unfold Raw.v at cF
  go_wp2_with (fail)
  refine cF.mono ?_
  rintro e w2 ⟨v, l, rfl, F2, hl, b2⟩
  have hpw1 : p < w1.heap.size := A1.lt
  have B2 := B1.trans (b2.mono (by have := A1.lt; omega))
  have hpw2 : p < w2.heap.size := by have := b2.size; omega
  clear e0 e1 e2 e3 e4 e5 cF A1 B1 b2 hst2 hle2
  have hR := fit_ok11 r hl
  obtain ⟨va, vc, ev⟩ := F2.o.isSlice
  subst ev
  have L2 := F2.reads (right_reads hR)
  have O2 : Hid (∀ q, ((Value.slice va l.length vc).ownBlock = some q ∨ ∃ s ∈ l, s.v.ownBlock = some q) → q < w2.heap.size) := Lib.hid fun q hq => by
    rcases hq with hq | ⟨s, hs, hq⟩
    · exact (F2.old _ (.inl rfl) q hq).2
    · exact (F2.old _ (.inr ⟨s, hs, rfl⟩) q hq).2
  obtain ⟨n, sec, k, m, eK, eM, hG0⟩ := gm_fit r
  have hq1 : 1 ≤ fitQ r ∧ fitQ r ≤ 1099511627776 := (right_g hR).2
  generalize fB11 r.b = B at *
  generalize fitQ r = q at *
  generalize fK11 r.k = K at *
  generalize fM11 r.m = M at *
  subst eK
  subst eM
  have HG := Lib.hid hG0
  have HR := Lib.hid hR
  have hln : l.length ≤ 1000 := by
    have := (body_len hG0 hR).2.1
    have h2 := hG0.rng
    have h3 := (body_len hG0 hR).1
    have h4 : l.length * 1 ≤ l.length * k := Nat.mul_le_mul_left _ h2.1
    omega
  have hkm := hG0.rng
  clear hl hok F2 hG0 hR
  obtain ⟨g, hg⟩ : ∃ g, w2.heap.size = g := ⟨_, rfl⟩
  have s3 : (w2.alloc (.cells #[.int .i64 (k : Int), .int .i64 (m : Int), .int .i64 B] 23)).heap.size = g + 1 := by simp [hg]
  obtain ⟨hGb, hXb, hbb, hsz⟩ := two_boxes2 w2 #[.int .i64 (k : Int), .int .i64 (m : Int), .int .i64 B] #[.int .i64 q, .slice va l.length vc] 23 30
  have X4 := RBx.made (w2.alloc (.cells #[.int .i64 (k : Int), .int .i64 (m : Int), .int .i64 B] 23)) q (.slice va l.length vc) 30
  rw [s3] at X4
  rw [hg] at hGb hsz
  have L4 := L2.below hbb
  have B4 := Lib.hid (B2.trans (hbb.mono (by omega)))
  have O4 : Hid (w2.heap.size = g) := Lib.hid hg
  have hp4 : p < g := by omega
  clear L2 s3 hbb B2 hXb hpw2
  go_upto_region 3 with (fail)
  generalize (w2.alloc (.cells #[.int .i64 (k : Int), .int .i64 (m : Int), .int .i64 B] 23)).alloc (.cells #[.int .i64 q, .slice va l.length vc] 30) = w4 at *
  clear hg
  have cK := racks12_any HG.out w4
  have c0 : w4.cell? ⟨g, 0, none⟩ = some (.int .i64 (k : Int)) := heap_cell hGb rfl
  have c1 : w4.cell? ⟨g, 1, none⟩ = some (.int .i64 (m : Int)) := heap_cell hGb rfl
  have c2 : w4.cell? ⟨g, 2, none⟩ = some (.int .i64 B) := heap_cell hGb rfl
  go_wp2_with (fail)
  refine cK.mono ?_
  rintro e w5 ⟨S5, ka, wq, Sb, kb, rfl, a5, _, _, _⟩
  have X5 : RW w4 S5 w5 ka n g (g + 1) (k : Int) (m : Int) B q (.slice va l.length vc) l (R00 sec) := rw_new a5 hGb X4 L4 (fun y hy => by have := O2.out y hy; have := O4.out; omega)
  clear c0 c1 c2 cK hGb X4 L4 a5 O2 hsz

  have hn5 : ((n : Nat) : Int) = (k : Int) + (m : Int) := by have := HG.out.n; omega
  have HNK : Hid (((n : Nat) : Int) = (k : Int) + (m : Int) ∧ n = k + m ∧ 2 ≤ n ∧ n ≤ 7 ∧ k ≤ 4 ∧ m ≤ 3) := Lib.hid ⟨hn5, HG.out.n, by omega, by omega, by omega, by omega⟩
  have HBw : Hid (Below w.heap.size w w4) := Lib.hid (by rw [hp.out]; exact B4.out)
  have HAll : Hid (∀ W, Calls Tryz.prog 14 #[.agg #[.int .i64 (k : Int), .int .i64 (m : Int), .int .i64 B]] W (GivesZ W (allL n))) := Lib.hid fun W => by
    have := all12_any k m B W (by omega) (by omega)
    rw [← HG.out.n] at this
    exact this
  have hrg := HG.out.rng
  obtain ⟨R1, hPT1, hK1, hP1⟩ := put_all (c := 0) HG.out (up_00 (by omega) (by omega)) HR.out (fun j _ => rfl) (rok_00 n sec) (by omega) hln X5
  have HPT1 := Lib.hid (And.intro hPT1 hK1)
  have HP1 := Lib.hid hP1
  clear hPT1 hK1 hP1 hrg hn5

  obtain ⟨keep, hke, hkn⟩ := pk_sum' keep0 k m n HNK.out.2.1 (by have := HNK.out.2.2.1; omega)
  have cK : ∀ W, Calls Tryz.prog 12 #[.int .i64 keep0, .int .i64 ((k : Int) + (m : Int))] W fun e w' => e = .returned (.int .i64 (keep : Int)) ∧ W = w' := fun W => by rw [← hke]; exact pick12_any keep0 _ W bk0.1 bk0.2 (by omega) (by omega)
  clear hke bk0
  obtain ⟨⟨c0, c1, c2⟩, c3, c4⟩ := X5.cells
  go_wp2_with (fail)
  refine (cK _).mono ?_
  rintro e wz ⟨rfl, rfl⟩
  clear cK
  go_upto_region 8 with (fail)
  clear c0 c1 c2 c3 c4
  refine wp_region_held_drew (S := fun W => W.heap[g]? = some (.cells #[.int .i64 (k : Int), .int .i64 (m : Int), .int .i64 B] 23 (0, 0)) ∧ W.cell? ⟨g + 1, 0, none⟩ = some (.int .i64 q) ∧ W.cell? ⟨g + 1, 1, none⟩ = some (.slice va l.length vc)) (by kernel_rfl) (X5.after (Below.drew_ w5)).bx (fun hHeld => ?_)
  refine wpAnyH_takeD (i := 0) (some 52) rfl (by kernel_rfl) (by kernel_rfl) (by kernel_rfl) rfl (fun _ _ _ h => h) (Or.inl ⟨by rfl, by rintro w hs1; first | rfl | (go_simp; done) | (go_simp; rfl)⟩) (by assumption) ?_
  simp only [Act.put, List.setIfInBounds_toArray, List.set_cons_zero, List.set_cons_succ]
  refine wpAnyH_takeD (i := 1) (v := .agg #[.int .i64 (k : Int), .int .i64 (m : Int), .int .i64 B]) (some 53) rfl (by kernel_rfl) (by kernel_rfl) (by kernel_rfl) rfl (fun _ _ _ h => h) (yieldsIf_load_run (by rfl) _ rfl rfl (fun _ hs => geo_load hs.1)) (by assumption) ?_
  simp only [Act.put, List.setIfInBounds_toArray, List.set_cons_zero, List.set_cons_succ]
  refine wpAnyH_takeD (i := 2) (v := .agg #[.int .i64 (k : Int), .int .i64 (m : Int), .int .i64 B]) (some 54) rfl (by kernel_rfl) (by kernel_rfl) (by kernel_rfl) rfl (fun _ _ _ h => h) (yieldsIf_load_run (by rfl) _ rfl rfl (fun _ hs => geo_load hs.1)) (by assumption) ?_
  simp only [Act.put, List.setIfInBounds_toArray, List.set_cons_zero, List.set_cons_succ]
  refine wpAnyH_takeD (i := 4) (v := .agg #[.int .i64 q, (.slice va l.length vc)]) (some 56) rfl (by kernel_rfl) (by kernel_rfl) (by kernel_rfl) rfl (fun _ _ _ h => h) (yieldsIf_load_run (by rfl) _ rfl rfl (fun _ hs => rec_load hs.2.1 hs.2.2)) (by assumption) ?_
  simp only [Act.put, List.setIfInBounds_toArray, List.set_cons_zero, List.set_cons_succ]
  refine wpAnyH_ready (rs := [3]) (by kernel_rfl) (by simp) ?_
  refine AllReadyH.cons rfl (fun K hK => ?_) AllReadyH.nil
  go_simp
  refine (HAll.out w5.drew).mono ?_
  rintro e z6 ⟨va6, rfl, oa6, ba6⟩
  have bb6 := (Below.drew_ w5).trans ba6
  have G6 := X5.after bb6
  have cPu := HP1.out z6 va6 bb6 (LsN.own oa6 fun q hq => X5.jw.ra.lt q hq) oa6.capOk
  clear oa6
  refine hK.out _ _ G6.bx (fun hHeld => ?_)
  clear hK
  try simp only [Act.put, List.setIfInBounds_toArray, List.set_cons_zero, List.set_cons_succ]
  refine wpAnyH_ready (rs := [5]) (by kernel_rfl) (by simp) ?_
  refine AllReadyH.cons rfl (fun K hK => ?_) AllReadyH.nil
  go_simp
  refine cPu.mono ?_
  rintro e w7 ⟨vw7, rfl, S7, s7, a7, ow7, nw7⟩
  obtain ⟨xw, yw, hfw0⟩ := ow7.reads.form
  have hfw : vw7 = .slice xw 0 yw := hfw0
  clear hfw0
  subst hfw
  have X7 := G6.stp s7 a7
  refine hK.out _ _ X7.bx (fun hHeld => ?_)
  clear hK
  try simp only [Act.put, List.setIfInBounds_toArray, List.set_cons_zero, List.set_cons_succ]
  refine wpAnyH_takeD (i := 6) (v := .tuple #[.slice xw 0 yw, .int .i64 0]) (some 51) rfl (by kernel_rfl) (by kernel_rfl) (by kernel_rfl) rfl (fun _ _ _ h => h) (Or.inl ⟨by rfl, by rintro w hs1; first | rfl | (go_simp; done) | (go_simp; rfl)⟩) (by assumption) ?_
  simp only [Act.put, List.setIfInBounds_toArray, List.set_cons_zero, List.set_cons_succ]
  refine wpAnyH_takeD (i := 7) (v := .slice xw 0 yw) (some 58) rfl (by kernel_rfl) (by kernel_rfl) (by kernel_rfl) rfl (fun _ _ _ h => h) (Or.inl ⟨by rfl, by rintro w hs1; first | rfl | (go_simp; done) | (go_simp; rfl)⟩) (by assumption) ?_
  simp only [Act.put, List.setIfInBounds_toArray, List.set_cons_zero, List.set_cons_succ]
  refine wpAnyH_takeD (i := 8) (v := .int .i64 0) (some 59) rfl (by kernel_rfl) (by kernel_rfl) (by kernel_rfl) rfl (fun _ _ _ h => h) (Or.inl ⟨by rfl, by rintro w hs1; first | rfl | (go_simp; done) | (go_simp; rfl)⟩) (by assumption) ?_
  simp only [Act.put, List.setIfInBounds_toArray, List.set_cons_zero, List.set_cons_succ]
  refine wpAnyH_takeD (i := 9) (v := .slice xw 0 yw) (some 17) rfl (by kernel_rfl) (by kernel_rfl) (by kernel_rfl) rfl (fun _ _ _ h => h) (Or.inl ⟨by rfl, by rintro w hs1; first | rfl | (go_simp; done) | (go_simp; rfl)⟩) (by assumption) ?_
  simp only [Act.put, List.setIfInBounds_toArray, List.set_cons_zero, List.set_cons_succ]
  refine wpAnyH_takeD (i := 10) (v := .int .i64 0) (some 18) rfl (by kernel_rfl) (by kernel_rfl) (by kernel_rfl) rfl (fun _ _ _ h => h) (Or.inl ⟨by rfl, by rintro w hs1; first | rfl | (go_simp; done) | (go_simp; rfl)⟩) (by assumption) ?_
  simp only [Act.put, List.setIfInBounds_toArray, List.set_cons_zero, List.set_cons_succ]
  refine wpAnyH_done (by kernel_rfl) ?_ _
  have st7 := (Stp.quiet bb6).trans s7
  clear hHeld cPu ow7 nw7 bb6 ba6 G6 s7 a7

  have HX7 := Lib.hid X7
  obtain ⟨i1, hi1, hy0, hy1, hy2⟩ := info_parts infoBl12
  obtain ⟨wm, hmk, om, bm⟩ := Own.make_run (P := Tryz.prog) (T := 42) Tryz.underlying42 hi1 hy0 hy1 hy2 rfl w7 n (by have := HNK.out; omega) (by have := HNK.out; omega)
  rw [HNK.out.1] at hmk
  obtain ⟨p2, hp2⟩ : ∃ p, w7.heap.size = p := ⟨_, rfl⟩
  have HP2 : Hid (w4.heap.size ≤ p2 ∧ g ≠ p2 ∧ g + 1 ≠ p2 ∧ ∀ y, ((Value.slice va l.length vc).ownBlock = some y ∨ ∃ s ∈ l, s.v.ownBlock = some y) → y ≠ p2) := Lib.hid ⟨by rw [← hp2]; exact X7.jw.ra.b.size, by have := X7.jw.gl; omega, by have := X7.rb.lt; omega, fun y hy => by have := (X7.rl.n y hy).1; omega⟩
  have bm6 : Below w7.heap.size w7 wm := bm
  rw [hp2] at hmk om
  have H8 : Hid (RW w4 S7 wm ka n g (g + 1) (k : Int) (m : Int) B q (.slice va l.length vc) l R1 ∧ GN wm S7 p2 n (List.replicate n false)) := Lib.hid ⟨X7.after bm6, ⟨by simpa [bv] using om, fun z => by have := X7.jw.ra.lt p2 z; omega⟩⟩
  have HU1 := HPT1.out.1.u
  have HSp0 : Hid (Spo n sec k q l keep R1 R1 (List.replicate n false)) := Lib.hid (Spo.start HU1)
  have hbl := body_len HG.out HR.out
  obtain ⟨D, hD⟩ : ∃ D, (allT l).length = D := ⟨_, rfl⟩
  have hT64 : D ≤ 64 := by have := HNK.out; omega
  have e1 : ((l.length : Int) * (k : Int)) = (D : Int) := by rw [← hD, hbl.1]; push_cast; rfl
  obtain ⟨t0, ht0, ht1⟩ := pk_nat at0 (1 + D) (by omega)
  have cT : ∀ W, Calls Tryz.prog 12 #[.int .i64 at0, .int .i64 (1 + (D : Int))] W fun e w' => e = .returned (.int .i64 (t0 : Int)) ∧ W = w' := fun W => by rw [← ht0, Int.natCast_add]; exact pick12_any at0 _ W ba0.1 ba0.2 (by omega) (by omega)
  obtain ⟨b, hb, hb1⟩ := pk_nat bits0 128 (by omega)
  have cB : ∀ W, Calls Tryz.prog 12 #[.int .i64 bits0, .int .i64 128] W fun e w' => e = .returned (.int .i64 (b : Int)) ∧ W = w' := fun W => by rw [← hb]; exact pick12_any bits0 _ W bb0.1 bb0.2 (by omega) (by omega)
  obtain ⟨c, hc, hc1⟩ := pk_nat bits0 255 (by omega)
  have cC : ∀ W, Calls Tryz.prog 12 #[.int .i64 bits0, .int .i64 255] W fun e w' => e = .returned (.int .i64 (c : Int)) ∧ W = w' := fun W => by rw [← hc]; exact pick12_any bits0 _ W bb0.1 bb0.2 (by omega) (by omega)
  obtain ⟨A, hA⟩ : ∃ A, bayN k (q % 2).toNat = A := ⟨_, rfl⟩
  have hA1 : A + t0 ≤ 255 := by have := (bay_in HG.out (q % 2).toNat).1; have := hbl.2.1; have := HG.out.rng; omega
  have cH : ∀ W, Calls Tryz.prog 18 #[.agg #[.int .i64 (k : Int), .int .i64 (m : Int), .int .i64 B], .int .i64 q] W fun e w' => e = .returned (.int .i64 (A : Int)) ∧ Below W.heap.size W w' := fun W => by
    have := rhead_any (k : Int) (m : Int) B q W (by omega)
    rw [head_bay HG.out (by omega), hA] at this
    exact this
  have SPR : Hid (∀ j, j < n → Bad k q l j (roM (R1.M j) ((A : Int) + (t0 : Int)) (b : Int) (1 + (c : Int))) ∧ (roM (R1.M j) ((A : Int) + (t0 : Int)) (b : Int) (1 + (c : Int))).L.length = (R1.M j).L.length) := Lib.hid fun j hj => by
    have := bad_rot HG.out HR.out HPT1.out.1 hj (t := t0) (b := b) (c := 1 + c) (by omega) hb1 (by omega) (by omega)
    rwa [hA, Int.natCast_add, Int.natCast_add] at this
  have HC : Hid (D ≤ 64 ∧ A + t0 ≤ 255 ∧ c < 255 ∧ b < 128) := Lib.hid ⟨hT64, hA1, hc1, hb1⟩
  have HCalls := Lib.hid (And.intro cT (And.intro cB (And.intro cC (And.intro cH e1))))
  clear hp2 om bm bm6 hi1 hy0 hy1 hy2 X7 HX7 X5 st7 hbl hD ht0 ht1 hb hb1 hc hc1 hA hA1 ba0 bb0 HU1 hT64 cT cB cC cH e1 HP1
  go_upto_block 0 with (fail)
  clear hmk
  go_cut [20, 21, 22] from 62 to 128 (fun _ _ _ wx => ∃ (S : Nat → Prop) (R : Rk) (gone : List Bool), RW w4 S wx ka n g (g + 1) (k : Int) (m : Int) B q (.slice va l.length vc) l R ∧ Spo n sec k q l keep R1 R gone ∧ ROk n R 1792)
  case first =>
    go_wp2_with (fail)
    go_loopw [20, 21, 22] (fun t _ _ wr => ∃ (i : Nat) (S : Nat → Prop) (R : Rk) (gone : List Bool), i ≤ l2.length ∧ i ≤ 20 ∧ t = .int .i64 (i : Int) ∧ RW w4 S wr ka n g (g + 1) (k : Int) (m : Int) B q (.slice va l.length vc) l R ∧ Spo n sec k q l keep R1 R gone ∧ ROk n R 1792 ∧ GN wr S p2 n gone) (fun t _ _ _ => l2.length - (RowKit.intOf t).toNat)
    case atStart => exact ⟨0, S7, R1, List.replicate n false, Nat.zero_le _, by omega, rfl, H8.out.1, HSp0.out, HPT1.out.2, H8.out.2⟩
    case round =>
      clear H8 HSp0
      obtain ⟨i, S, R, gone, hi, hi20, rfl, hX, hSp, hro, hgn⟩ := hrel
      rename World => wr
      by_cases hlt : i < l2.length ∧ i < 20
      · obtain ⟨hlt, h20⟩ := hlt
        have y1 : (i : Int) < (l2.length : Int) := by omega
        have y2 : (i : Int) < 20 := by omega
        obtain ⟨va', vc', hv', hit⟩ := Reads.items HRl2.out.1
        obtain ⟨rfl, rfl⟩ : pa2 = va' ∧ pc2 = vc' := by injection hv' with z1 z2 z3; exact ⟨z1, z3⟩
        clear hv'
        obtain ⟨cb, co, rfl, hcb2, hc0⟩ := hit i hlt
        obtain ⟨x, hx⟩ : ∃ x, l2[i] = x := ⟨_, rfl⟩
        have hxr := HRl2.out.2 l2[i] (List.getElem_mem hlt)
        rw [hx] at hc0 hxr
        have cx : wr.cell? ⟨cb, co + i, none⟩ = some (.int .i64 x) := ((HBw.out.trans (hX.jw.ra.b.mono HBw.out.size)).cell (p := ⟨cb, co + i, none⟩) hcb2).trans hc0
        have hpx := pk_rng11 x (3 * ((k : Int) + (m : Int))) (by omega)
        have cP := fun W => pick12_any x (3 * ((k : Int) + (m : Int))) W hxr.1 hxr.2 (by omega) (by omega)
        obtain ⟨cc, hcc⟩ := Int.eq_ofNat_of_zero_le hpx.1
        rw [hcc] at hpx cP
        have HN := HNK.out
        have hjn0 := Nat.mod_lt cc (show 0 < n by omega)
        obtain ⟨j, hj⟩ : ∃ j, cc % n = j := ⟨_, rfl⟩
        obtain ⟨y, hq⟩ : ∃ q, cc / n = q := ⟨_, rfl⟩
        rw [hj] at hjn0
        have hq3 : y < 3 := by rw [← hq]; exact Nat.div_lt_of_lt_mul (by omega)
        have hmod : (cc : Int) % ((k : Int) + (m : Int)) = (j : Int) := by rw [show (k : Int) + (m : Int) = ((n : Nat) : Int) by omega, ← hj]; rfl
        have hm2 : Hid ((cc : Int) / ((k : Int) + (m : Int)) = (y : Int)) := Lib.hid (by rw [show (k : Int) + (m : Int) = ((n : Nat) : Int) by omega, ← hq]; rfl)
        have hmod2 : (cc : Int).tmod ((k : Int) + (m : Int)) = (j : Int) := by rw [Int.tmod_eq_emod_of_nonneg (by omega)]; exact hmod
        have hm3 : ¬ ((k : Int) + (m : Int) = 0) := by omega
        have hm4 : ((k : Int) + (m : Int) == 0) = false := by rw [beq_eq_false_iff_ne]; exact hm3
        have hjI : (j : Int) < (n : Int) := by omega
        have cj := hgn.cell (i := j) (by rw [hSp.len]; exact hjn0)
        have HX := Lib.hid hX
        have HGN := Lib.hid hgn
        have HSP := Lib.hid (And.intro hSp (And.intro hro hjn0))
        have hkI : (keep : Int) < (n : Int) := by omega
        clear hit hcb2 hc0 hx hcc hj hq hX hgn hSp hro HN hjn0 hpx hxr
        by_cases hjk : j = keep
        · subst hjk
          go_wp2_with (fail)
          refine (cP _).mono ?_
          rintro e wz ⟨rfl, rfl⟩
          clear cP cx
          go_wp2_with (fail)
          go_roundw
          case rel => exact ⟨i + 1, S, R, gone, by omega, by omega, by go_num, HX.out, HSP.out.1, HSP.out.2.1, HGN.out⟩
          case measure => simp [RowKit.intOf]; omega
        · have hjk2 : ¬ ((j : Int) = (keep : Int)) := by omega
          have hjk3 : ((j : Int) == (keep : Int)) = false := by rw [beq_eq_false_iff_ne]; exact hjk2
          by_cases hgj : gone.getD j false = true
          · rw [hgj] at cj
            go_wp2_with (fail)
            refine (cP _).mono ?_
            rintro e wz ⟨rfl, rfl⟩
            clear cP cx
            go_wp2_with (fail)
            go_roundw
            case rel => exact ⟨i + 1, S, R, gone, by omega, by omega, by go_num, HX.out, HSP.out.1, HSP.out.2.1, HGN.out⟩
            case measure => simp [RowKit.intOf]; omega
          · have hgf : gone.getD j false = false := by simpa using hgj
            rw [hgf] at cj
            have fz := HGN.out.fro j
            have X2 := HX.out.put HP2.out.1 HP2.out.2.1 HP2.out.2.2.1 HGN.out.n HP2.out.2.2.2 j (.bool true)
            have HX2 := Lib.hid (And.intro X2 (HGN.out.put j))
            have hSS : Hid (Spo n sec k q l keep R1 (upR n R (j : Int) faM) (gone.set j true) ∧ Spo n sec k q l keep R1 (upR n R (j : Int) blM) (gone.set j true) ∧ Spo n sec k q l keep R1 (upR n R (j : Int) fun M => roM M ((A : Int) + (t0 : Int)) (b : Int) (1 + (c : Int))) (gone.set j true)) := Lib.hid ⟨HSP.out.1.step HSP.out.2.2 hjk hgf faM (by simp [faM]) bad_fail, HSP.out.1.step HSP.out.2.2 hjk hgf blM (by simp [blM]) bad_blank, HSP.out.1.step HSP.out.2.2 hjk hgf (fun M => roM M ((A : Int) + (t0 : Int)) (b : Int) (1 + (c : Int))) (SPR.out j HSP.out.2.2).2 (SPR.out j HSP.out.2.2).1⟩
            have HRO := Lib.hid (vn_upf (j := j) HSP.out.2.1)
            have hdiv : (cc : Int) / ((k : Int) + (m : Int)) = (y : Int) := hm2.out
            have hdiv2 : (cc : Int).tdiv ((k : Int) + (m : Int)) = (y : Int) := by rw [Int.tdiv_eq_ediv_of_nonneg (by omega)]; exact hdiv
            clear hgj hgf HX HGN HSP hm2 X2 hjk
            rcases (show y = 0 ∨ y = 1 ∨ y = 2 by omega) with rfl | rfl | rfl
            · have hdiv0 : (cc : Int) / ((k : Int) + (m : Int)) = 0 := hdiv
              have hdiv00 : (cc : Int).tdiv ((k : Int) + (m : Int)) = 0 := hdiv2
              clear hdiv hdiv2
              have cF := rt_fail HX2.out.1.jw.ra (j : Int)
              go_wp2_with (fail)
              refine (cP _).mono ?_
              rintro e wz ⟨rfl, rfl⟩
              clear cP cx
              go_wp2_with (fail)
              refine cF.mono ?_
              rintro e w3' ⟨rfl, S3, s3, a3⟩
              have H3 := Lib.hid (And.intro (HX2.out.1.stp s3 a3) (HX2.out.2.stp s3))
              clear cF HX2 s3 a3
              go_wp2_with (fail)
              go_roundw
              case rel => exact ⟨i + 1, S3, _, _, by omega, by omega, by go_num, H3.out.1, hSS.out.1, HRO.out.1, H3.out.2⟩
              case measure => simp [RowKit.intOf]; omega
            · have hdiv0 : (cc : Int) / ((k : Int) + (m : Int)) = 1 := hdiv
              have hdiv00 : (cc : Int).tdiv ((k : Int) + (m : Int)) = 1 := hdiv2
              clear hdiv hdiv2
              have cF := rt_blank HX2.out.1.jw.ra (j : Int)
              go_wp2_with (fail)
              refine (cP _).mono ?_
              rintro e wz ⟨rfl, rfl⟩
              clear cP cx
              go_wp2_with (fail)
              refine cF.mono ?_
              rintro e w3' ⟨rfl, S3, s3, a3⟩
              have H3 := Lib.hid (And.intro (HX2.out.1.stp s3 a3) (HX2.out.2.stp s3))
              clear cF HX2 s3 a3
              go_wp2_with (fail)
              go_roundw
              case rel => exact ⟨i + 1, S3, _, _, by omega, by omega, by go_num, H3.out.1, hSS.out.2.1, HRO.out.2.1, H3.out.2⟩
              case measure => simp [RowKit.intOf]; omega
            · have hdiv0 : (cc : Int) / ((k : Int) + (m : Int)) = 2 := hdiv
              have hdiv00 : (cc : Int).tdiv ((k : Int) + (m : Int)) = 2 := hdiv2
              clear hdiv hdiv2
              go_wp2_with (fail)
              refine (cP _).mono ?_
              rintro e wz ⟨rfl, rfl⟩
              clear cP cx
              have X2 := HX2.out.1
              have bx := X2.bx
              have glt := X2.jw.gl
              have blt := X2.rb.lt
              obtain ⟨⟨c0, c1, c2⟩, c3, c4⟩ := X2.cells
              clear X2
              obtain ⟨wb, hwb⟩ : ∃ wb, wb = wr.setCell ⟨p2, j, none⟩ (.bool true) := ⟨_, rfl⟩
              rw [← hwb] at HX2 c0 c1 c2 c3 c4 glt blt
              clear bx
              go_upto_region 18 with (fail)
              rw [← hwb]
              clear hwb cj fz
              obtain ⟨cT, cB, cC, cH, e1⟩ := HCalls.out
              obtain ⟨hT64, hA1, hc1, hb1⟩ := HC.out
              refine wp_region_cls_tail (Below wb.heap.size wb) 21 (by kernel_rfl) (by kernel_rfl) (Below.refl _ _).drew ?_
              intro Z f hne hD hE
              have r0 : ∀ z, (f z).cell? ⟨g, 0, none⟩ = some (.int .i64 (k : Int)) := fun z => (clsCell hD z _ _ glt).trans c0
              have r1 : ∀ z, (f z).cell? ⟨g, 1, none⟩ = some (.int .i64 (m : Int)) := fun z => (clsCell hD z _ _ glt).trans c1
              have r2 : ∀ z, (f z).cell? ⟨g, 2, none⟩ = some (.int .i64 B) := fun z => (clsCell hD z _ _ glt).trans c2
              have r3 : ∀ z, (f z).cell? ⟨g + 1, 0, none⟩ = some (.int .i64 q) := fun z => (clsCell hD z _ _ blt).trans c3
              have r4 : ∀ z, (f z).cell? ⟨g + 1, 1, none⟩ = some (.slice va l.length vc) := fun z => (clsCell hD z _ _ blt).trans c4
              simp only [List.take_succ_cons, List.take_zero, List.drop_succ_cons, List.drop_zero]
              iterate 21 (go_big_quiet_step (first | (go_at_call 12; first | with_reducible exact toQ _ (cT _) | with_reducible exact toQ _ (cB _) | with_reducible exact toQ _ (cC _)) | (go_at_call 18; with_reducible exact toQB hD hE _ (cH _))))
              refine wpQuiet_nil ?_
              intro _ hw'
              obtain ⟨zq, hw''⟩ := hw'
              subst hw''
              have HX3 := Lib.hid (And.intro (HX2.out.1.after (hD zq)) (HX2.out.2.after (hD zq)))
              obtain ⟨wz, hwz⟩ : ∃ wz, f zq = wz := ⟨_, rfl⟩
              rw [hwz] at HX3 ⊢
              clear r0 r1 r2 r3 r4 hE hD hwz zq HX2 c0 c1 c2 c3 c4 glt blt cT cB cC cH e1
              have cF := rt_rot HX3.out.1.jw.ra (j : Int) ((A : Int) + (t0 : Int)) (b : Int) (1 + (c : Int)) (in64_iff.2 (by omega))
              go_wp2_with (fail)
              refine cF.mono ?_
              rintro e w3' ⟨rfl, S3, s3, a3⟩
              have H3 := Lib.hid (And.intro (HX3.out.1.stp s3 a3) (HX3.out.2.stp s3))
              clear cF HX3 s3 a3
              go_wp2_with (fail)
              go_roundw
              case rel => exact ⟨i + 1, S3, _, _, by omega, by omega, by go_num, H3.out.1, hSS.out.2.2, HRO.out.2.2 _ _ _, H3.out.2⟩
              case measure => simp [RowKit.intOf]; omega
      · have HF := Lib.hid (And.intro hX (And.intro hSp hro))
        clear hX hSp hro hgn
        by_cases hw : i < l2.length
        · have y1 : (i : Int) < (l2.length : Int) := by omega
          have y2 : ¬ ((i : Int) < 20) := by omega
          clear hw hlt
          go_wp2_with (fail)
          go_meet
          exact ⟨S, R, gone, HF.out⟩
        · have y1 : ¬ ((i : Int) < (l2.length : Int)) := by omega
          clear hw hlt
          go_wp2_with (fail)
          go_meet
          exact ⟨S, R, gone, HF.out⟩
  case rest =>
  obtain ⟨S, R, gone, hX, hSp, hro⟩ := hcut
  rename World => wr
  have hBest := spo_best HG.out HR.out HPT1.out.1 hSp hkn
  have HXX := Lib.hid hX
  have HLast : Hid (∀ W v, RA w4 S W ka n R → LsN W S v (allL n) → capOk v → Calls Tryz.prog 19 #[.pointer (some ⟨ka, 0, none⟩), .int .i64 9, .agg #[.int .i64 (k : Int), .int .i64 (m : Int), .int .i64 B], v] W (LastTo W (bestM n R 9 (k : Int) (m : Int) B (allL n), 0))) := Lib.hid fun W v hA hv hc =>
    best_law (i := 9) HG.out hSp.u (by omega) (by omega) hA (hro.le (by omega)) hv hc (by rw [allL_len]; have := HNK.out; omega) (fun x hx => allL_mem.1 hx) allL_nodup
  rw [hBest] at HLast
  have HSm : Hid (∀ q2 (l2 : List St), IsRec (some (q, l.map pr)) q2 l2 → ∀ s ∈ l2, s.d.length ≤ 140737488355328 ∧ ∀ t ∈ s.d, t.size ≤ 140737488355328) := Lib.hid fun q2 l2 hi => isrec_small (.inr rfl) (right_reads HR.out) hi
  have hSlt : Hid (∀ q, S q → q < wr.heap.size) := Lib.hid fun q hq => hX.jw.ra.lt q hq
  have HS2 : Hid (∀ W, Below wr.heap.size wr W → W.heap[g]? = some (.cells #[.int .i64 (k : Int), .int .i64 (m : Int), .int .i64 B] 23 (0, 0))) := Lib.hid fun W hW => (hX.after hW).jw.gb
  have hd0 : Below wr.heap.size wr wr.drew := Below.drew_ wr
  obtain ⟨bst, hbst⟩ : ∃ bst, some (q, l.map pr) = bst := ⟨_, rfl⟩
  rw [hbst] at HLast HSm
  have HBst := Lib.hid hbst
  clear hX hSp hro hBest H8 HSp0 HRl2 SPR HC HCalls HP2 hbst
  go_upto_region 23 with (fail)
  go_cut [23, 24, 25] from 129 to 137 (fun s21 s22 s23 wx => ∃ (b : Nat) (q2 : Int) (x2 : Option Addr) (y2 : Nat) (l2 : List St), s21 = .pointer (some ⟨b, 0, none⟩) ∧ s22 = .bool bst.isSome ∧ s23 = .int .i64 0 ∧ RW w4 S wx ka n g (g + 1) (k : Int) (m : Int) B q (.slice va l.length vc) l R ∧ TBx wx b q2 x2 y2 l2 ∧ IsRec bst q2 l2)
  case first =>
    refine wp_region_held_drew (S := fun W => W.heap[g]? = some (.cells #[.int .i64 (k : Int), .int .i64 (m : Int), .int .i64 B] 23 (0, 0))) (by kernel_rfl) (HS2.out _ hd0) (fun hHeld => ?_)
    refine wpAnyH_takeD (i := 0) (some 130) rfl (by kernel_rfl) (by kernel_rfl) (by kernel_rfl) rfl (fun _ _ _ h => h) (Or.inl ⟨by rfl, by rintro w hs1; first | rfl | (go_simp; done) | (go_simp; rfl)⟩) (by assumption) ?_
    simp only [Act.put, List.setIfInBounds_toArray, List.set_cons_zero, List.set_cons_succ]
    refine wpAnyH_takeD (i := 1) (v := .agg #[.int .i64 (k : Int), .int .i64 (m : Int), .int .i64 B]) (some 131) rfl (by kernel_rfl) (by kernel_rfl) (by kernel_rfl) rfl (fun _ _ _ h => h) (yieldsIf_load_run (by rfl) _ rfl rfl (fun _ hs => geo_load hs)) (by assumption) ?_
    simp only [Act.put, List.setIfInBounds_toArray, List.set_cons_zero, List.set_cons_succ]
    refine wpAnyH_takeD (i := 2) (v := .agg #[.int .i64 (k : Int), .int .i64 (m : Int), .int .i64 B]) (some 132) rfl (by kernel_rfl) (by kernel_rfl) (by kernel_rfl) rfl (fun _ _ _ h => h) (yieldsIf_load_run (by rfl) _ rfl rfl (fun _ hs => geo_load hs)) (by assumption) ?_
    simp only [Act.put, List.setIfInBounds_toArray, List.set_cons_zero, List.set_cons_succ]
    refine wpAnyH_ready (rs := [3, 9]) (by kernel_rfl) (by simp) ?_
    refine AllReadyH.cons rfl (fun K hK => ?_) (AllReadyH.cons rfl (fun K hK => ?_) AllReadyH.nil)
    · go_simp
      refine (HAll.out wr.drew).mono ?_
      rintro e wA ⟨vwA, rfl, owA, bwA⟩
      have dwA := hd0.trans (bwA.mono hd0.size)
      have qwA : LsN wA S vwA (allL n) := LsN.own owA (fun q hq => by have := hSlt.out q hq; have := hd0.size; omega)
      have cwA := owA.capOk
      refine hK.out _ _ (HS2.out _ dwA) (fun hHeld => ?_)
      clear hK
      try simp only [Act.put, List.setIfInBounds_toArray, List.set_cons_zero, List.set_cons_succ]
      refine wpAnyH_ready (rs := [4, 9]) (by kernel_rfl) (by simp) ?_
      refine AllReadyH.cons rfl (fun K hK => ?_) (AllReadyH.cons rfl (fun K hK => ?_) AllReadyH.nil)
      · go_simp
        refine (HLast.out wA vwA (HXX.out.after dwA).jw.ra qwA cwA).mono ?_
        rintro e wB ⟨q2, v2, l2, rfl, f2, i2, b2⟩
        obtain ⟨x2, y2, rfl⟩ := f2.isSlice
        have dwB := dwA.trans (b2.mono dwA.size)
        refine hK.out _ _ (HS2.out _ dwB) (fun hHeld => ?_)
        clear hK
        try simp only [Act.put, List.setIfInBounds_toArray, List.set_cons_zero, List.set_cons_succ]
        refine wpAnyH_takeD (i := 5) (v := .tuple #[.agg #[.int .i64 q2, .slice x2 l2.length y2], .bool bst.isSome, .int .i64 0]) (some 129) rfl (by kernel_rfl) (by kernel_rfl) (by kernel_rfl) rfl (fun _ _ _ h => h) (Or.inl ⟨by rfl, by rintro w hs1; first | rfl | (go_simp; done) | (go_simp; rfl)⟩) (by assumption) ?_
        simp only [Act.put, List.setIfInBounds_toArray, List.set_cons_zero, List.set_cons_succ]
        refine wpAnyH_takeD (i := 6) (v := .agg #[.int .i64 q2, .slice x2 l2.length y2]) (some 135) rfl (by kernel_rfl) (by kernel_rfl) (by kernel_rfl) rfl (fun _ _ _ h => h) (Or.inl ⟨by rfl, by rintro w hs1; first | rfl | (go_simp; done) | (go_simp; rfl)⟩) (by assumption) ?_
        simp only [Act.put, List.setIfInBounds_toArray, List.set_cons_zero, List.set_cons_succ]
        refine wpAnyH_takeD (i := 7) (v := .bool bst.isSome) (some 136) rfl (by kernel_rfl) (by kernel_rfl) (by kernel_rfl) rfl (fun _ _ _ h => h) (Or.inl ⟨by rfl, by rintro w hs1; first | rfl | (go_simp; done) | (go_simp; rfl)⟩) (by assumption) ?_
        simp only [Act.put, List.setIfInBounds_toArray, List.set_cons_zero, List.set_cons_succ]
        refine wpAnyH_takeD (i := 8) (v := .int .i64 0) (some 137) rfl (by kernel_rfl) (by kernel_rfl) (by kernel_rfl) rfl (fun _ _ _ h => h) (Or.inl ⟨by rfl, by rintro w hs1; first | rfl | (go_simp; done) | (go_simp; rfl)⟩) (by assumption) ?_
        simp only [Act.put, List.setIfInBounds_toArray, List.set_cons_zero, List.set_cons_succ]
        refine wpAnyH_ready (rs := [9]) (by kernel_rfl) (by simp) ?_
        refine AllReadyH.cons rfl (fun K hK => ?_) AllReadyH.nil
        refine step_alloc_run (d := some 23) (record_alloc wB) rfl rfl rfl ?_
        have bal := (Below.refl wB.heap.size wB).alloc (Nat.le_refl _) (.cells #[.int .i64 0, .slice none 0 0] 30)
        have hal := heap_alloc_new wB (.cells #[.int .i64 0, .slice none 0 0] 30)
        have dwC := dwB.trans (bal.mono dwB.size)
        have sal : (wB.alloc (.cells #[.int .i64 0, .slice none 0 0] 30)).heap.size = wB.heap.size + 1 := by simp
        obtain ⟨wC, hwC⟩ : ∃ W, W = wB.alloc (.cells #[.int .i64 0, .slice none 0 0] 30) := ⟨_, rfl⟩
        rw [← hwC] at bal hal dwC sal ⊢
        clear hwC
        obtain ⟨bx, hbx⟩ : ∃ b, wB.heap.size = b := ⟨_, rfl⟩
        rw [hbx] at hal sal ⊢
        have hwb : wr.heap.size ≤ bx := by have := dwB.size; omega
        refine hK.out _ _ (HS2.out _ dwC) (fun hHeld => ?_)
        clear hK
        try simp only [Act.put, List.setIfInBounds_toArray, List.set_cons_zero, List.set_cons_succ]
        have fC : SFam wC wA.heap.size (.slice x2 l2.length y2) l2 := f2.after bal
        refine wpAnyH_ready (rs := [10]) (by kernel_rfl) (by simp) ?_
        refine AllReadyH.cons rfl (fun K hK => ?_) AllReadyH.nil
        refine step_store_run (d := none) (record_storeR wC bx hal q2 x2 l2.length y2) _ _ rfl rfl rfl rfl rfl ?_
        have dz := below_setRow dwC hwb #[.int .i64 q2, .slice x2 l2.length y2]
        refine hK.out _ _ (HS2.out _ dz) (fun hHeld => ?_)
        clear hK
        try simp only [Act.put, List.setIfInBounds_toArray, List.set_cons_zero, List.set_cons_succ]
        refine wpAnyH_takeD (i := 11) (v := .bool bst.isSome) (some 24) rfl (by kernel_rfl) (by kernel_rfl) (by kernel_rfl) rfl (fun _ _ _ h => h) (Or.inl ⟨by rfl, by rintro w hs1; first | rfl | (go_simp; done) | (go_simp; rfl)⟩) (by assumption) ?_
        simp only [Act.put, List.setIfInBounds_toArray, List.set_cons_zero, List.set_cons_succ]
        refine wpAnyH_takeD (i := 12) (v := .int .i64 0) (some 25) rfl (by kernel_rfl) (by kernel_rfl) (by kernel_rfl) rfl (fun _ _ _ h => h) (Or.inl ⟨by rfl, by rintro w hs1; first | rfl | (go_simp; done) | (go_simp; rfl)⟩) (by assumption) ?_
        simp only [Act.put, List.setIfInBounds_toArray, List.set_cons_zero, List.set_cons_succ]
        refine wpAnyH_done (by kernel_rfl) ?_ _
        have hfin := tbx_set (q := q2) hal (fun x hx => by have := fam_old f2 hx; omega) fC (HSm.out q2 l2 i2)
        have hrw := HXX.out.after dz
        clear hHeld
        go_wp2_with (fail)
        go_meet
        exact ⟨bx, q2, x2, y2, l2, rfl, rfl, rfl, hrw, hfin, i2⟩
      · refine step_alloc_run (d := some 23) (record_alloc wA) rfl rfl rfl ?_
        have bal := (Below.refl wA.heap.size wA).alloc (Nat.le_refl _) (.cells #[.int .i64 0, .slice none 0 0] 30)
        have hal := heap_alloc_new wA (.cells #[.int .i64 0, .slice none 0 0] 30)
        have dwC := dwA.trans (bal.mono dwA.size)
        have sal : (wA.alloc (.cells #[.int .i64 0, .slice none 0 0] 30)).heap.size = wA.heap.size + 1 := by simp
        obtain ⟨wC, hwC⟩ : ∃ W, W = wA.alloc (.cells #[.int .i64 0, .slice none 0 0] 30) := ⟨_, rfl⟩
        rw [← hwC] at bal hal dwC sal ⊢
        clear hwC
        obtain ⟨bx, hbx⟩ : ∃ b, wA.heap.size = b := ⟨_, rfl⟩
        rw [hbx] at hal sal ⊢
        have hwb : wr.heap.size ≤ bx := by have := dwA.size; omega
        refine hK.out _ _ (HS2.out _ dwC) (fun hHeld => ?_)
        clear hK
        try simp only [Act.put, List.setIfInBounds_toArray, List.set_cons_zero, List.set_cons_succ]
        refine wpAnyH_ready (rs := [4]) (by kernel_rfl) (by simp) ?_
        refine AllReadyH.cons rfl (fun K hK => ?_) AllReadyH.nil
        have qwC := qwA.after bal
        go_simp
        refine (HLast.out wC vwA (HXX.out.after dwC).jw.ra qwC cwA).mono ?_
        rintro e wB ⟨q2, v2, l2, rfl, f2, i2, b2⟩
        obtain ⟨x2, y2, rfl⟩ := f2.isSlice
        have dwB := dwC.trans (b2.mono dwC.size)
        refine hK.out _ _ (HS2.out _ dwB) (fun hHeld => ?_)
        clear hK
        try simp only [Act.put, List.setIfInBounds_toArray, List.set_cons_zero, List.set_cons_succ]
        refine wpAnyH_takeD (i := 5) (v := .tuple #[.agg #[.int .i64 q2, .slice x2 l2.length y2], .bool bst.isSome, .int .i64 0]) (some 129) rfl (by kernel_rfl) (by kernel_rfl) (by kernel_rfl) rfl (fun _ _ _ h => h) (Or.inl ⟨by rfl, by rintro w hs1; first | rfl | (go_simp; done) | (go_simp; rfl)⟩) (by assumption) ?_
        simp only [Act.put, List.setIfInBounds_toArray, List.set_cons_zero, List.set_cons_succ]
        refine wpAnyH_takeD (i := 6) (v := .agg #[.int .i64 q2, .slice x2 l2.length y2]) (some 135) rfl (by kernel_rfl) (by kernel_rfl) (by kernel_rfl) rfl (fun _ _ _ h => h) (Or.inl ⟨by rfl, by rintro w hs1; first | rfl | (go_simp; done) | (go_simp; rfl)⟩) (by assumption) ?_
        simp only [Act.put, List.setIfInBounds_toArray, List.set_cons_zero, List.set_cons_succ]
        refine wpAnyH_takeD (i := 7) (v := .bool bst.isSome) (some 136) rfl (by kernel_rfl) (by kernel_rfl) (by kernel_rfl) rfl (fun _ _ _ h => h) (Or.inl ⟨by rfl, by rintro w hs1; first | rfl | (go_simp; done) | (go_simp; rfl)⟩) (by assumption) ?_
        simp only [Act.put, List.setIfInBounds_toArray, List.set_cons_zero, List.set_cons_succ]
        refine wpAnyH_takeD (i := 8) (v := .int .i64 0) (some 137) rfl (by kernel_rfl) (by kernel_rfl) (by kernel_rfl) rfl (fun _ _ _ h => h) (Or.inl ⟨by rfl, by rintro w hs1; first | rfl | (go_simp; done) | (go_simp; rfl)⟩) (by assumption) ?_
        simp only [Act.put, List.setIfInBounds_toArray, List.set_cons_zero, List.set_cons_succ]
        have halB := (b2.block bx (by omega)).trans hal
        refine wpAnyH_ready (rs := [10]) (by kernel_rfl) (by simp) ?_
        refine AllReadyH.cons rfl (fun K hK => ?_) AllReadyH.nil
        refine step_store_run (d := none) (record_storeR wB bx halB q2 x2 l2.length y2) _ _ rfl rfl rfl rfl rfl ?_
        have dz := below_setRow dwB hwb #[.int .i64 q2, .slice x2 l2.length y2]
        refine hK.out _ _ (HS2.out _ dz) (fun hHeld => ?_)
        clear hK
        try simp only [Act.put, List.setIfInBounds_toArray, List.set_cons_zero, List.set_cons_succ]
        refine wpAnyH_takeD (i := 11) (v := .bool bst.isSome) (some 24) rfl (by kernel_rfl) (by kernel_rfl) (by kernel_rfl) rfl (fun _ _ _ h => h) (Or.inl ⟨by rfl, by rintro w hs1; first | rfl | (go_simp; done) | (go_simp; rfl)⟩) (by assumption) ?_
        simp only [Act.put, List.setIfInBounds_toArray, List.set_cons_zero, List.set_cons_succ]
        refine wpAnyH_takeD (i := 12) (v := .int .i64 0) (some 25) rfl (by kernel_rfl) (by kernel_rfl) (by kernel_rfl) rfl (fun _ _ _ h => h) (Or.inl ⟨by rfl, by rintro w hs1; first | rfl | (go_simp; done) | (go_simp; rfl)⟩) (by assumption) ?_
        simp only [Act.put, List.setIfInBounds_toArray, List.set_cons_zero, List.set_cons_succ]
        refine wpAnyH_done (by kernel_rfl) ?_ _
        have hfin := tbx_set (q := q2) halB (fun x hx => by have := fam_old f2 hx; omega) f2 (HSm.out q2 l2 i2)
        have hrw := HXX.out.after dz
        clear hHeld
        go_wp2_with (fail)
        go_meet
        exact ⟨bx, q2, x2, y2, l2, rfl, rfl, rfl, hrw, hfin, i2⟩
    · refine step_alloc_run (d := some 23) (record_alloc wr.drew) rfl rfl rfl ?_
      have bal := (Below.refl wr.drew.heap.size wr.drew).alloc (Nat.le_refl _) (.cells #[.int .i64 0, .slice none 0 0] 30)
      have hal := heap_alloc_new wr.drew (.cells #[.int .i64 0, .slice none 0 0] 30)
      have dwC := hd0.trans (bal.mono hd0.size)
      have sal : (wr.drew.alloc (.cells #[.int .i64 0, .slice none 0 0] 30)).heap.size = wr.drew.heap.size + 1 := by simp
      obtain ⟨wC, hwC⟩ : ∃ W, W = wr.drew.alloc (.cells #[.int .i64 0, .slice none 0 0] 30) := ⟨_, rfl⟩
      rw [← hwC] at bal hal dwC sal ⊢
      clear hwC
      obtain ⟨bx, hbx⟩ : ∃ b, wr.drew.heap.size = b := ⟨_, rfl⟩
      rw [hbx] at hal sal ⊢
      have hwb : wr.heap.size ≤ bx := by have := hd0.size; omega
      refine hK.out _ _ (HS2.out _ dwC) (fun hHeld => ?_)
      clear hK
      try simp only [Act.put, List.setIfInBounds_toArray, List.set_cons_zero, List.set_cons_succ]
      refine wpAnyH_ready (rs := [3]) (by kernel_rfl) (by simp) ?_
      refine AllReadyH.cons rfl (fun K hK => ?_) AllReadyH.nil
      go_simp
      refine (HAll.out wC).mono ?_
      rintro e wA ⟨vwA, rfl, owA, bwA⟩
      have dwA := dwC.trans (bwA.mono dwC.size)
      have qwA : LsN wA S vwA (allL n) := LsN.own owA (fun q hq => by have := hSlt.out q hq; have := dwC.size; omega)
      have cwA := owA.capOk
      refine hK.out _ _ (HS2.out _ dwA) (fun hHeld => ?_)
      clear hK
      try simp only [Act.put, List.setIfInBounds_toArray, List.set_cons_zero, List.set_cons_succ]
      refine wpAnyH_ready (rs := [4]) (by kernel_rfl) (by simp) ?_
      refine AllReadyH.cons rfl (fun K hK => ?_) AllReadyH.nil
      go_simp
      refine (HLast.out wA vwA (HXX.out.after dwA).jw.ra qwA cwA).mono ?_
      rintro e wB ⟨q2, v2, l2, rfl, f2, i2, b2⟩
      obtain ⟨x2, y2, rfl⟩ := f2.isSlice
      have dwB := dwA.trans (b2.mono dwA.size)
      refine hK.out _ _ (HS2.out _ dwB) (fun hHeld => ?_)
      clear hK
      try simp only [Act.put, List.setIfInBounds_toArray, List.set_cons_zero, List.set_cons_succ]
      refine wpAnyH_takeD (i := 5) (v := .tuple #[.agg #[.int .i64 q2, .slice x2 l2.length y2], .bool bst.isSome, .int .i64 0]) (some 129) rfl (by kernel_rfl) (by kernel_rfl) (by kernel_rfl) rfl (fun _ _ _ h => h) (Or.inl ⟨by rfl, by rintro w hs1; first | rfl | (go_simp; done) | (go_simp; rfl)⟩) (by assumption) ?_
      simp only [Act.put, List.setIfInBounds_toArray, List.set_cons_zero, List.set_cons_succ]
      refine wpAnyH_takeD (i := 6) (v := .agg #[.int .i64 q2, .slice x2 l2.length y2]) (some 135) rfl (by kernel_rfl) (by kernel_rfl) (by kernel_rfl) rfl (fun _ _ _ h => h) (Or.inl ⟨by rfl, by rintro w hs1; first | rfl | (go_simp; done) | (go_simp; rfl)⟩) (by assumption) ?_
      simp only [Act.put, List.setIfInBounds_toArray, List.set_cons_zero, List.set_cons_succ]
      refine wpAnyH_takeD (i := 7) (v := .bool bst.isSome) (some 136) rfl (by kernel_rfl) (by kernel_rfl) (by kernel_rfl) rfl (fun _ _ _ h => h) (Or.inl ⟨by rfl, by rintro w hs1; first | rfl | (go_simp; done) | (go_simp; rfl)⟩) (by assumption) ?_
      simp only [Act.put, List.setIfInBounds_toArray, List.set_cons_zero, List.set_cons_succ]
      refine wpAnyH_takeD (i := 8) (v := .int .i64 0) (some 137) rfl (by kernel_rfl) (by kernel_rfl) (by kernel_rfl) rfl (fun _ _ _ h => h) (Or.inl ⟨by rfl, by rintro w hs1; first | rfl | (go_simp; done) | (go_simp; rfl)⟩) (by assumption) ?_
      simp only [Act.put, List.setIfInBounds_toArray, List.set_cons_zero, List.set_cons_succ]
      have halB := (b2.block bx (by have := bwA.size; omega)).trans ((bwA.block bx (by omega)).trans hal)
      refine wpAnyH_ready (rs := [10]) (by kernel_rfl) (by simp) ?_
      refine AllReadyH.cons rfl (fun K hK => ?_) AllReadyH.nil
      refine step_store_run (d := none) (record_storeR wB bx halB q2 x2 l2.length y2) _ _ rfl rfl rfl rfl rfl ?_
      have dz := below_setRow dwB hwb #[.int .i64 q2, .slice x2 l2.length y2]
      refine hK.out _ _ (HS2.out _ dz) (fun hHeld => ?_)
      clear hK
      try simp only [Act.put, List.setIfInBounds_toArray, List.set_cons_zero, List.set_cons_succ]
      refine wpAnyH_takeD (i := 11) (v := .bool bst.isSome) (some 24) rfl (by kernel_rfl) (by kernel_rfl) (by kernel_rfl) rfl (fun _ _ _ h => h) (Or.inl ⟨by rfl, by rintro w hs1; first | rfl | (go_simp; done) | (go_simp; rfl)⟩) (by assumption) ?_
      simp only [Act.put, List.setIfInBounds_toArray, List.set_cons_zero, List.set_cons_succ]
      refine wpAnyH_takeD (i := 12) (v := .int .i64 0) (some 25) rfl (by kernel_rfl) (by kernel_rfl) (by kernel_rfl) rfl (fun _ _ _ h => h) (Or.inl ⟨by rfl, by rintro w hs1; first | rfl | (go_simp; done) | (go_simp; rfl)⟩) (by assumption) ?_
      simp only [Act.put, List.setIfInBounds_toArray, List.set_cons_zero, List.set_cons_succ]
      refine wpAnyH_done (by kernel_rfl) ?_ _
      have hfin := tbx_set (q := q2) halB (fun x hx => by have := fam_old f2 hx; have := bwA.size; omega) f2 (HSm.out q2 l2 i2)
      have hrw := HXX.out.after dz
      clear hHeld
      go_wp2_with (fail)
      go_meet
      exact ⟨bx, q2, x2, y2, l2, rfl, rfl, rfl, hrw, hfin, i2⟩
  case rest =>
    obtain ⟨b, q2, x2, y2, l2, rfl, rfl, rfl, hrw, htb, hir⟩ := hcut
    rename World => wx
    have hbst := HBst.out
    subst hbst
    obtain ⟨e2, hp2⟩ : q2 = q ∧ l2.map pr = l.map pr := hir
    subst e2
    have hF := pr_facts hp2 (right_reads HR.out) q2
    have h3 := rsame11_any q2 q2 (.slice x2 l2.length y2) (.slice va l.length vc) l2 l wx htb.2 hrw.rl.r (by rw [hF.2.1]; omega)
    rw [hF.1] at h3
    have t0 := htb.1.c0
    have t1 := htb.1.c1
    have t2 := hrw.rb.c0
    have t3 := hrw.rb.c1
    have hfin : Hid (∀ W, Below wx.heap.size wx W → Below w.heap.size w W) := Lib.hid fun W hW => HBw.out.trans ((hrw.after hW).jw.ra.b.mono HBw.out.size)
    clear hrw htb hF hp2 HLast HSm HXX HS2 hd0 hSlt HBst
    simp only [Option.isSome_some]
    go_wp2_with (fail)
    refine h3.mono ?_
    rintro e wz ⟨rfl, bz⟩
    clear t0 t1 t2 t3 h3
    go_wp2_with (fail)
    go_ret
    exact ⟨rfl, hfin.out _ bz⟩
end Go.Proofs.YtfadglcpapiklaaGreatDoor
