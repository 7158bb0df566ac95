/- journal: JournalLoses. -/
import Derived.Test.YtfadglcpapiklaaGreatDoorJrnLsM
import Derived.Test.YtfadglcpapiklaaGreatDoorJrnFg
namespace Go.Proofs.YtfadglcpapiklaaGreatDoor
open Go.RowKit
open Rc
set_option linter.unusedVariables false
set_option linter.unusedSimpArgs false
set_option maxRecDepth 100000

theorem GN.keep {W W' : World} {S : Nat → Prop} {p n : Nat} {gone : List Bool} (h : GN W S p n gone) (e : W'.heap[p]? = W.heap[p]?) : GN W' S p n gone := ⟨h.o.sameBlock e, h.n⟩
theorem LsN.put {W : World} {S : Nat → Prop} {p : Nat} {v : Value} {l : List Int} (h : LsN W S v l) (hq : l ≠ [] → ∀ q, v.ownBlock = some q → q ≠ p) (i : Nat) (u : Value) : LsN (W.setCell ⟨p, i, none⟩ u) S v l :=
  ⟨h.r.keptN (by simp) fun h0 q e _ => heap_put W (hq (fun z => h0 (by rw [z]; rfl)) q e) i u, fun h0 q e => ⟨by simpa using (h.n h0 q e).1, (h.n h0 q e).2⟩⟩
theorem rok_dead (n sec : Nat) (dd : List Bool) : ROk n (deadR sec dd) 0 := ⟨⟨Int.le_refl _, Int.le_refl _⟩, ⟨Int.le_refl _, by show (0 : Int) ≤ _; omega⟩, fun i hi => Vn.none _ _ _⟩
theorem flag_make {W : World} {S : Nat → Prop} {p n : Nat} (o : Own W p 4 (.slice (some ⟨p, 0, none⟩) n n) (List.replicate n (.bool false))) (hS : ∀ x, S x → x < p) : GN W S p n (List.replicate n false) :=
  ⟨by simpa [bv] using o, fun z => by have := hS p z; omega⟩
theorem pk_sum (c : Int) (k m n : Nat) (hn : n = k + m) (h1 : 1 ≤ n) : ∃ j : Nat, pk11 c ((k : Int) + (m : Int)) = (j : Int) ∧ j < n := by
  obtain ⟨j, e, h⟩ := pk_nat c n h1
  exact ⟨j, by rw [← e, hn, Int.natCast_add], h⟩
set_option maxHeartbeats 4000000 in
theorem jloses_walk (r : Raw) (vs vl : Value) (v1 : Value) (l1 : List Int) (v2 : Value) (l2 : List Int) (w : World) (hok : RawOk r) (hst : Reads w vs (r.st.map (.int .i64))) (hle : Reads w vl (r.le.map (.int .i64))) (Rl1 : Reads w v1 (l1.map (.int .i64))) (Fl1 : ∀ x ∈ l1, -9223372036854775808 ≤ x ∧ x ≤ 9223372036854775807) (Nl1 : l1.length ≤ 9223372036854775806) (Rl2 : Reads w v2 (l2.map (.int .i64))) (Fl2 : ∀ x ∈ l2, -9223372036854775808 ≤ x ∧ x ≤ 9223372036854775807) (Nl2 : l2.length ≤ 9223372036854775806) :
    Calls Tryz.prog 4 #[r.v vs vl, v1, v2] w fun e w' => e = .returned (.bool true) ∧ Below w.heap.size w w' := by
  obtain ⟨pa1, pc1, hv1⟩ := Rl1.form
  obtain ⟨pa2, pc2, hv2⟩ := Rl2.form
  rw [List.length_map] at hv1 hv2
  subst hv1
  subst hv2
  have HRl1 := Lib.hid (And.intro Rl1 Fl1)
  have HRl2 := Lib.hid (And.intro Rl2 Fl2)
  clear Rl1 Fl1 Rl2 Fl2
  obtain ⟨p, hp⟩ : ∃ p, w.heap.size = p := ⟨_, rfl⟩
  have A0 := RwB.made w r vs vl 26
  have b0 : Below p w (w.alloc (.cells #[.int .i64 r.k, .int .i64 r.m, .int .i64 r.b, .int .i64 r.q, vs, vl] 26)) := (Below.refl _ _).alloc (by omega) _
  rw [hp] at A0
  have hst1 := hst.below (by rw [hp]; exact b0)
  have hle1 := hle.below (by rw [hp]; exact b0)
  clear hst hle
  unfold Raw.v
  go_enter Tryz.func4, Tryz.ntmps4
  go_wp2_with (fail)
  replace hp := Lib.hid hp
  generalize w.alloc (.cells #[.int .i64 r.k, .int .i64 r.m, .int .i64 r.b, .int .i64 r.q, vs, vl] 26) = w0 at *
  refine (awake12_any _).mono ?_
  rintro e w1 ⟨rfl, b1⟩
  have A1 := A0.below b1 A0.lt
  have B1 := b0.trans (b1.mono (by have := A0.lt; omega))
  have hst2 := hst1.below b1
  have hle2 := hle1.below b1
  obtain ⟨sa, sc, hvs⟩ := hst2.isSlice
  obtain ⟨la, lc, hvl⟩ := hle2.isSlice
  rw [List.length_map] at hvs hvl
  subst hvs
  subst hvl
  clear A0 b0 b1 hst1 hle1
  have e0 := A1.a0
  have e1 := A1.a1
  have e2 := A1.a2
  have e3 := A1.a3
  have e4 := A1.a4
  have e5 := A1.a5
  have cF := fit11_any r _ _ w1 hok hst2 hle2
  unfold Raw.v at cF
  go_wp2_with (fail)
  refine cF.mono ?_
  rintro e w2 ⟨v, l, rfl, F2, hl, b2⟩
  have hpw1 : p < w1.heap.size := A1.lt
  have B2 := B1.trans (b2.mono (by have := A1.lt; omega))
  have hpw2 : p < w2.heap.size := by have := b2.size; omega
  clear e0 e1 e2 e3 e4 e5 cF A1 B1 b2 hst2 hle2
  have hR := fit_ok11 r hl
  obtain ⟨va, vc, ev⟩ := F2.o.isSlice
  subst ev
  have L2 := F2.reads (right_reads hR)
  have O2 : Hid (∀ q, ((Value.slice va l.length vc).ownBlock = some q ∨ ∃ s ∈ l, s.v.ownBlock = some q) → q < w2.heap.size) := Lib.hid fun q hq => by
    rcases hq with hq | ⟨s, hs, hq⟩
    · exact (F2.old _ (.inl rfl) q hq).2
    · exact (F2.old _ (.inr ⟨s, hs, rfl⟩) q hq).2
  obtain ⟨n, sec, k, m, eK, eM, hG0⟩ := gm_fit r
  have hq1 : 1 ≤ fitQ r ∧ fitQ r ≤ 1099511627776 := (right_g hR).2
  generalize fB11 r.b = B at *
  generalize fitQ r = q at *
  generalize fK11 r.k = K at *
  generalize fM11 r.m = M at *
  subst eK
  subst eM
  have HG := Lib.hid hG0
  have HR := Lib.hid hR
  have hln : l.length ≤ 1000 := by
    have := (body_len hG0 hR).2.1
    have h2 := hG0.rng
    have h3 := (body_len hG0 hR).1
    have h4 : l.length * 1 ≤ l.length * k := Nat.mul_le_mul_left _ h2.1
    omega
  have hkm := hG0.rng
  clear hl hok F2 hG0 hR
  obtain ⟨g, hg⟩ : ∃ g, w2.heap.size = g := ⟨_, rfl⟩
  have s3 : (w2.alloc (.cells #[.int .i64 (k : Int), .int .i64 (m : Int), .int .i64 B] 23)).heap.size = g + 1 := by simp [hg]
  obtain ⟨hGb, hXb, hbb, hsz⟩ := two_boxes2 w2 #[.int .i64 (k : Int), .int .i64 (m : Int), .int .i64 B] #[.int .i64 q, .slice va l.length vc] 23 30
  have X4 := RBx.made (w2.alloc (.cells #[.int .i64 (k : Int), .int .i64 (m : Int), .int .i64 B] 23)) q (.slice va l.length vc) 30
  rw [s3] at X4
  rw [hg] at hGb hsz
  have L4 := L2.below hbb
  have B4 := Lib.hid (B2.trans (hbb.mono (by omega)))
  have O4 : Hid (w2.heap.size = g) := Lib.hid hg
  have hp4 : p < g := by omega
  clear L2 s3 hbb B2 hXb hpw2
  go_upto_region 3 with (fail)
  generalize (w2.alloc (.cells #[.int .i64 (k : Int), .int .i64 (m : Int), .int .i64 B] 23)).alloc (.cells #[.int .i64 q, .slice va l.length vc] 30) = w4 at *
  clear hg
  have cK := racks12_any HG.out w4
  have c0 : w4.cell? ⟨g, 0, none⟩ = some (.int .i64 (k : Int)) := heap_cell hGb rfl
  have c1 : w4.cell? ⟨g, 1, none⟩ = some (.int .i64 (m : Int)) := heap_cell hGb rfl
  have c2 : w4.cell? ⟨g, 2, none⟩ = some (.int .i64 B) := heap_cell hGb rfl
  go_wp2_with (fail)
  refine cK.mono ?_
  rintro e w5 ⟨S5, ka, wq, Sb, kb, rfl, a5, _, _, _⟩
  have X5 : RW w4 S5 w5 ka n g (g + 1) (k : Int) (m : Int) B q (.slice va l.length vc) l (R00 sec) := rw_new a5 hGb X4 L4 (fun y hy => by have := O2.out y hy; have := O4.out; omega)
  clear c0 c1 c2 cK hGb X4 L4 a5 O2 hsz

  have hn5 : ((n : Nat) : Int) = (k : Int) + (m : Int) := by have := HG.out.n; omega
  have HNK : Hid (((n : Nat) : Int) = (k : Int) + (m : Int) ∧ n = k + m ∧ 2 ≤ n ∧ n ≤ 7) := Lib.hid ⟨hn5, HG.out.n, by omega, by omega⟩
  have HBw : Hid (Below w.heap.size w w4) := Lib.hid (by rw [hp.out]; exact B4.out)
  obtain ⟨⟨c0, c1, c2⟩, c3, c4⟩ := X5.cells
  obtain ⟨i1, hi1, hy0, hy1, hy2⟩ := info_parts infoBl12
  obtain ⟨wm, hmk, om, bm⟩ := Own.make_run (P := Tryz.prog) (T := 42) Tryz.underlying42 hi1 hy0 hy1 hy2 rfl w5 n (by omega) (by omega)
  rw [hn5] at hmk
  obtain ⟨p1, hp1⟩ : ∃ p, w5.heap.size = p := ⟨_, rfl⟩
  have HP1 : Hid (w4.heap.size ≤ p1 ∧ g ≠ p1 ∧ g + 1 ≠ p1 ∧ (∀ x, S5 x → x < p1) ∧ ∀ y, ((Value.slice va l.length vc).ownBlock = some y ∨ ∃ s ∈ l, s.v.ownBlock = some y) → y < p1) := Lib.hid ⟨by rw [← hp1]; exact X5.jw.ra.b.size, by have := X5.jw.gl; omega, by have := X5.rb.lt; omega, fun x hx => by rw [← hp1]; exact X5.jw.ra.lt x hx, fun y hy => by rw [← hp1]; exact (X5.rl.n y hy).1⟩
  rw [hp1] at hmk om bm
  have G0 : Hid (GN wm S5 p1 n (List.replicate n false)) := Lib.hid (flag_make om HP1.out.2.2.2.1)
  have HX5 : Hid (∀ W, Below p1 w5 W → RW w4 S5 W ka n g (g + 1) (k : Int) (m : Int) B q (.slice va l.length vc) l (R00 sec)) := Lib.hid fun W hW => X5.after (by rw [hp1]; exact hW)
  have BM := Lib.hid bm
  obtain ⟨b0, hb0⟩ : ∃ b, wm.heap.size = b := ⟨_, rfl⟩
  have HB0 : Hid (wm.heap.size = b0 ∧ p1 < b0) := Lib.hid ⟨hb0, by have := G0.out.o.lt.2; omega⟩
  clear hn5 bm om hp1 hb0 X5 hi1 hy0 hy1 hy2
  go_upto_block 0 with (fail)
  clear c0 c1 c2 c3 c4 hmk
  go_cut [14, 15, 16] from 51 to 78 (fun s14 _ _ wx => ∃ (ins : List Bool) (sl : List Int), Nmd n ins sl ∧ sl.length ≤ 30 ∧ Below p1 w5 wx ∧ GN wx S5 p1 n ins ∧ LsN wx S5 s14 sl ∧ capOk s14)
  case first =>
    go_wp2_with (fail)
    go_loopw [14, 15, 16] (fun s14x t _ wr => ∃ (i : Nat) (ins : List Bool) (sl : List Int) (s14 : Value), s14 = s14x ∧ i ≤ l1.length ∧ i ≤ 30 ∧ t = .int .i64 (i : Int) ∧ Nmd n ins sl ∧ sl.length ≤ i ∧ Own wr b0 3 s14 (sl.map (.int .i64)) ∧ Below p1 w5 wr ∧ b0 ≤ wr.heap.size ∧ GN wr S5 p1 n ins) (fun _ t _ _ => l1.length - (RowKit.intOf t).toNat)
    case atStart => exact ⟨0, List.replicate n false, [], _, rfl, Nat.zero_le _, by omega, rfl, Nmd.none n, Nat.le_refl _, Own.nil _ _ _, BM.out, by have := HB0.out.1; omega, G0.out⟩
    case round =>
      clear BM G0
      obtain ⟨i, ins, sl, s14, rfl, hi, hi20, rfl, hN, hsl, ho, hB, hbz, hgn⟩ := hrel
      rename World => wr
      have HLst : Hid (LsN wr S5 s14 sl ∧ capOk s14) := Lib.hid ⟨⟨ho.reads, fun _ q hq => ⟨(ho.o.lt q hq).2, fun z => by have h1 := HP1.out.2.2.2.1 q z; have h2 := (ho.o.lt q hq).1; have h3 := HB0.out.2; omega⟩⟩, ho.capOk⟩
      by_cases hlt : i < l1.length ∧ i < 30
      · obtain ⟨hlt, h20⟩ := hlt
        have y1 : (i : Int) < (l1.length : Int) := by omega
        have y2 : (i : Int) < 30 := by omega
        obtain ⟨va', vc', hv', hit⟩ := Reads.items HRl1.out.1
        obtain ⟨rfl, rfl⟩ : pa1 = va' ∧ pc1 = vc' := by injection hv' with z1 z2 z3; exact ⟨z1, z3⟩
        clear hv'
        obtain ⟨cb, co, rfl, hcb2, hc0⟩ := hit i hlt
        obtain ⟨x, hx⟩ : ∃ x, l1[i] = x := ⟨_, rfl⟩
        have hxr := HRl1.out.2 l1[i] (List.getElem_mem hlt)
        rw [hx] at hc0 hxr
        have cx : wr.cell? ⟨cb, co + i, none⟩ = some (.int .i64 x) := (((HBw.out.trans ((HX5.out wr hB).jw.ra.b.mono HBw.out.size))).cell (p := ⟨cb, co + i, none⟩) hcb2).trans hc0
        obtain ⟨j, hj, hjn⟩ := pk_sum x k m n HNK.out.2.1 (by have := HNK.out.2.2.1; omega)
        have cP : ∀ W, Calls Tryz.prog 12 #[.int .i64 x, .int .i64 ((k : Int) + (m : Int))] W fun e w' => e = .returned (.int .i64 (j : Int)) ∧ W = w' := fun W => by rw [← hj]; exact pick12_any x _ W hxr.1 hxr.2 (by omega) (by omega)
        have hjI : (j : Int) < (n : Int) := by omega
        have hjL : j < ins.length := by rw [hN.len]; exact hjn
        have cj := hgn.cell hjL
        have fz := hgn.fro j
        have hpq : ∀ q, s14.ownBlock = some q → q ≠ p1 := fun q hq => by have h2 := (ho.o.lt q hq).1; have h3 := HB0.out.2; omega
        by_cases hgj : ins.getD j false = true
        · rw [hgj] at cj
          have HF : Hid (Nmd n (ins.set j true) sl ∧ Own (wr.setCell ⟨p1, j, none⟩ (.bool true)) b0 3 s14 (sl.map (.int .i64)) ∧ Below p1 w5 (wr.setCell ⟨p1, j, none⟩ (.bool true)) ∧ GN (wr.setCell ⟨p1, j, none⟩ (.bool true)) S5 p1 n (ins.set j true)) := Lib.hid ⟨hN.old hjn hgj, ho.sameAt fun q hq => heap_put wr (hpq q hq) j _, hB.setCell (p := ⟨p1, j, none⟩) (Nat.le_refl _) _, hgn.put j⟩
          clear hit hcb2 hc0 hx hj hjn hjL hN ho hB hgn hpq hgj hxr HLst
          go_wp2_with (fail)
          refine (cP _).mono ?_
          rintro e wz ⟨rfl, rfl⟩
          clear cP cx
          go_wp2_with (fail)
          go_roundw
          case rel => exact ⟨i + 1, ins.set j true, sl, _, rfl, by omega, by omega, by go_num, HF.out.1, by omega, HF.out.2.1, HF.out.2.2.1, by simpa using hbz, HF.out.2.2.2⟩
          case measure => simp [RowKit.intOf]; omega
        · have hgf : ins.getD j false = false := by simpa using hgj
          rw [hgf] at cj
          obtain ⟨i3, q1, q2, q3, q4⟩ := info_parts Tryz.infoI
          obtain ⟨v8, w8, hap, o8, b8, kp8, ow8⟩ := Own.pushA (P := Tryz.prog) (T := 24) Tryz.underlying24 q1 q2 q3 q4 rfl ho (.int .i64 (j : Int)) rfl hbz (by rw [List.length_map]; omega) (by rw [List.length_map]; omega)
          have hnx : sl.map (Value.int .i64) ++ [.int .i64 (j : Int)] = (sl ++ [(j : Int)]).map (Value.int .i64) := by rw [List.map_append]; rfl
          rw [hnx] at o8
          have g8 : GN w8 S5 p1 n ins := hgn.keep (b8.block p1 HB0.out.2)
          have cj8 := g8.cell hjL
          rw [hgf] at cj8
          have fz8 := g8.fro j
          have HF : Hid (Nmd n (ins.set j true) (sl ++ [(j : Int)]) ∧ (sl ++ [(j : Int)]).length ≤ i + 1 ∧ Own (w8.setCell ⟨p1, j, none⟩ (.bool true)) b0 3 v8 ((sl ++ [(j : Int)]).map (.int .i64)) ∧ Below p1 w5 (w8.setCell ⟨p1, j, none⟩ (.bool true)) ∧ b0 ≤ (w8.setCell ⟨p1, j, none⟩ (.bool true)).heap.size ∧ GN (w8.setCell ⟨p1, j, none⟩ (.bool true)) S5 p1 n (ins.set j true)) := Lib.hid ⟨hN.new hjn hgf, by rw [List.length_append, List.length_singleton]; omega, o8.sameAt fun q hq => heap_put w8 (by have h2 := (o8.o.lt q hq).1; have h3 := HB0.out.2; omega) j _, (hB.trans (b8.mono (Nat.le_of_lt HB0.out.2))).setCell (p := ⟨p1, j, none⟩) (Nat.le_refl _) _, by simpa using Nat.le_trans hbz b8.size, g8.put j⟩
          clear hit hcb2 hc0 hx hj hjn hjL hN ho hB hgn hpq hgj hgf hxr HLst o8 b8 kp8 ow8 g8 hnx q1 q2 q3 q4 hsl
          go_wp2_with (at_builtin; refine wpList_append_run hap _ _ rfl rfl rfl rfl rfl ?_)
          refine (cP _).mono ?_
          rintro e wz ⟨rfl, rfl⟩
          clear cP cx
          go_wp2_with (at_builtin; refine wpList_append_run hap _ _ rfl rfl rfl rfl rfl ?_)
          go_roundw
          case rel => exact ⟨i + 1, ins.set j true, sl ++ [(j : Int)], _, rfl, by omega, by omega, by go_num, HF.out.1, HF.out.2.1, HF.out.2.2.1, HF.out.2.2.2.1, HF.out.2.2.2.2.1, HF.out.2.2.2.2.2⟩
          case measure => simp [RowKit.intOf]; omega
      · have HF : Hid (Nmd n ins sl ∧ sl.length ≤ 30 ∧ Below p1 w5 wr ∧ GN wr S5 p1 n ins ∧ LsN wr S5 s14 sl ∧ capOk s14) := Lib.hid ⟨hN, by omega, hB, hgn, HLst.out⟩
        clear hN hsl ho hB hbz hgn HLst
        by_cases hw : i < l1.length
        · have y1 : (i : Int) < (l1.length : Int) := by omega
          have y2 : ¬ ((i : Int) < 30) := by omega
          clear hw hlt
          go_wp2_with (fail)
          go_meet
          exact ⟨ins, sl, HF.out⟩
        · have y1 : ¬ ((i : Int) < (l1.length : Int)) := by omega
          clear hw hlt
          go_wp2_with (fail)
          go_meet
          exact ⟨ins, sl, HF.out⟩
  case rest =>
  obtain ⟨ins, sl, hN, hsl, hB6, hg6, hl6, hcap6⟩ := hcut
  rename World => w6
  have X6 := HX5.out w6 hB6
  have HNm := Lib.hid hN
  obtain ⟨pa3, pc3, hv3⟩ := hl6.r.form
  rw [List.length_map] at hv3
  subst hv3
  obtain ⟨i1, hi1, hy0, hy1, hy2⟩ := info_parts infoBl12
  obtain ⟨wm2, hmk, om, bm⟩ := Own.make_run (P := Tryz.prog) (T := 42) Tryz.underlying42 hi1 hy0 hy1 hy2 rfl w6 n (by have := HNK.out.2.2.2; omega) (by have := HNK.out.2.2.2; omega)
  rw [HNK.out.1] at hmk
  obtain ⟨p2, hp2⟩ : ∃ p, w6.heap.size = p := ⟨_, rfl⟩
  have HP2 : Hid (w4.heap.size ≤ p2 ∧ g ≠ p2 ∧ g + 1 ≠ p2 ∧ p1 ≠ p2 ∧ (sl ≠ [] → ∀ q, (Value.slice pa3 sl.length pc3).ownBlock = some q → q ≠ p2) ∧ ∀ y, ((Value.slice va l.length vc).ownBlock = some y ∨ ∃ s ∈ l, s.v.ownBlock = some y) → y ≠ p2) := Lib.hid ⟨by rw [← hp2]; exact X6.jw.ra.b.size, by have := X6.jw.gl; omega, by have := X6.rb.lt; omega, by have := hg6.o.lt.2; omega, fun h0 q hq => by have := (hl6.n h0 q hq).1; omega, fun y hy => by have := (X6.rl.n y hy).1; omega⟩
  have bm6 : Below w6.heap.size w6 wm2 := bm
  rw [hp2] at hmk om
  have H7 : Hid (RW w4 S5 wm2 ka n g (g + 1) (k : Int) (m : Int) B q (.slice va l.length vc) l (deadR sec (List.replicate n false)) ∧ GN wm2 S5 p1 n ins ∧ LsN wm2 S5 (.slice pa3 sl.length pc3) sl ∧ GN wm2 S5 p2 n (List.replicate n false)) := Lib.hid ⟨by rw [deadR_nil]; exact X6.after bm6, hg6.after bm6, hl6.after bm6, flag_make om (fun x hx => by rw [← hp2]; exact X6.jw.ra.lt x hx)⟩
  clear hp2 om bm bm6 hi1 hy0 hy1 hy2 hN hB6 hg6 hl6 X6 HX5 HB0 BM G0 HP1 HRl1
  go_upto_block 2 with (fail)
  clear hmk
  go_cut [18] from 81 to 107 (fun _ wx => ∃ (dd : List Bool) (S : Nat → Prop), dd.length = n ∧ RW w4 S wx ka n g (g + 1) (k : Int) (m : Int) B q (.slice va l.length vc) l (deadR sec dd) ∧ GN wx S p1 n ins ∧ LsN wx S (.slice pa3 sl.length pc3) sl ∧ GN wx S p2 n dd)
  case first =>
    go_wp2_with (fail)
    go_loopw [18] (fun t wr => ∃ (i : Nat) (dd : List Bool) (S : Nat → Prop), i ≤ l2.length ∧ i ≤ n ∧ t = .int .i64 (i : Int) ∧ dd.length = n ∧ RW w4 S wr ka n g (g + 1) (k : Int) (m : Int) B q (.slice va l.length vc) l (deadR sec dd) ∧ GN wr S p1 n ins ∧ LsN wr S (.slice pa3 sl.length pc3) sl ∧ GN wr S p2 n dd) (fun t _ => l2.length - (RowKit.intOf t).toNat)
    case atStart => exact ⟨0, List.replicate n false, S5, Nat.zero_le _, Nat.zero_le _, rfl, List.length_replicate, H7.out⟩
    case round =>
      clear H7
      obtain ⟨i, dd, S, hi, hi20, rfl, hdl, hX, hg1, hls, hg2⟩ := hrel
      rename World => wr
      by_cases hlt : i < l2.length ∧ i < n
      · obtain ⟨hlt, h20⟩ := hlt
        have y1 : (i : Int) < (l2.length : Int) := by omega
        have y2 : (i : Int) < (k : Int) + (m : Int) := by have := HNK.out.1; omega
        obtain ⟨va', vc', hv', hit⟩ := Reads.items HRl2.out.1
        obtain ⟨rfl, rfl⟩ : pa2 = va' ∧ pc2 = vc' := by injection hv' with z1 z2 z3; exact ⟨z1, z3⟩
        clear hv'
        obtain ⟨cb, co, rfl, hcb2, hc0⟩ := hit i hlt
        obtain ⟨x, hx⟩ : ∃ x, l2[i] = x := ⟨_, rfl⟩
        have hxr := HRl2.out.2 l2[i] (List.getElem_mem hlt)
        rw [hx] at hc0 hxr
        have CX : Hid (∀ W, Below w4.heap.size w4 W → W.cell? ⟨cb, co + i, none⟩ = some (.int .i64 x)) := Lib.hid fun W hW => ((HBw.out.trans (hW.mono HBw.out.size)).cell (p := ⟨cb, co + i, none⟩) hcb2).trans hc0
        obtain ⟨j, hj, hjn⟩ := pk_sum x k m n HNK.out.2.1 (by have := HNK.out.2.2.1; omega)
        have cP : ∀ W, Calls Tryz.prog 12 #[.int .i64 x, .int .i64 ((k : Int) + (m : Int))] W fun e w' => e = .returned (.int .i64 (j : Int)) ∧ W = w' := fun W => by rw [← hj]; exact pick12_any x _ W hxr.1 hxr.2 (by omega) (by omega)
        have hjI : (j : Int) < (n : Int) := by omega
        have hjL : j < dd.length := by rw [hdl]; exact hjn
        have cj := hg2.cell hjL
        have fz := hg2.fro j
        have cx := CX.out wr hX.jw.ra.b
        have hX2 := hX.put HP2.out.1 HP2.out.2.1 HP2.out.2.2.1 hg2.n HP2.out.2.2.2.2.2 j (.bool true)
        have cx2 := CX.out _ hX2.jw.ra.b
        have cF := rt_fail hX2.jw.ra (j : Int)
        rw [deadR_set hjn hdl] at cF
        have HX := Lib.hid (And.intro hX2 (And.intro (hg1.keep (heap_put wr HP2.out.2.2.2.1 j (.bool true))) (And.intro (hls.put HP2.out.2.2.2.2.1 j (.bool true)) (hg2.put j))))
        have hdl2 : (dd.set j true).length = n := by rw [List.length_set]; exact hdl
        clear hit hcb2 hc0 hx hj hjn hjL hX hX2 hg1 hls hg2 hxr hdl CX
        go_wp2_with (fail)
        refine (cP _).mono ?_
        rintro e wz ⟨rfl, rfl⟩
        clear cx
        go_wp2_with (fail)
        refine (cP _).mono ?_
        rintro e wz ⟨rfl, rfl⟩
        clear cP cx2 cj fz
        go_wp2_with (fail)
        refine cF.mono ?_
        rintro e w8 ⟨rfl, S8, s8, a8⟩
        have HY := Lib.hid (And.intro (HX.out.1.stp s8 a8) (And.intro (HX.out.2.1.stp s8) (And.intro (HX.out.2.2.1.stp s8) (HX.out.2.2.2.stp s8))))
        clear cF HX s8 a8
        go_wp2_with (fail)
        go_roundw
        case rel => exact ⟨i + 1, dd.set j true, S8, by omega, by omega, by go_num, hdl2, HY.out⟩
        case measure => simp [RowKit.intOf]; omega
      · have HF := Lib.hid (And.intro hdl (And.intro hX (And.intro hg1 (And.intro hls hg2))))
        clear hdl hX hg1 hls hg2
        by_cases hw : i < l2.length
        · have y1 : (i : Int) < (l2.length : Int) := by omega
          have y2 : ¬ ((i : Int) < (k : Int) + (m : Int)) := by have := HNK.out.1; omega
          clear hw hlt
          go_wp2_with (fail)
          go_meet
          exact ⟨dd, S, HF.out⟩
        · have y1 : ¬ ((i : Int) < (l2.length : Int)) := by omega
          clear hw hlt
          go_wp2_with (fail)
          go_meet
          exact ⟨dd, S, HF.out⟩
  case rest =>
  obtain ⟨dd, S7, hdl, X7, g71, l71, g72⟩ := hcut
  rename World => w7
  clear H7 HRl2
  have hU := dead_up (sec := sec) (dd := dd) (n := n) (by have := HNK.out.2.2.1; omega) HNK.out.2.2.2
  obtain ⟨R', hPu, hPT⟩ := put_to (i := 9) HG.out hU HR.out (by omega) (by omega) HNm.out.rng HNm.out.nd
  have hK' := put_ok (id := 9) (K := (k : Int)) (M := (m : Int)) (B := B) (q := q) (ss := l) (l := sl) (rok_dead n sec dd)
  rw [show puM n (deadR sec dd) 9 (k : Int) (m : Int) B sl q l = _ from hPu] at hK'
  have cPu : Calls Tryz.prog 13 #[.pointer (some ⟨ka, 0, none⟩), .int .i64 9, .agg #[.int .i64 (k : Int), .int .i64 (m : Int), .int .i64 B], .slice pa3 sl.length pc3, .agg #[.int .i64 q, .slice va l.length vc]] w7 (EDoes w4 S7 w7 ka n (R', deadL (deadR sec dd) sl, 0)) := put_law (sec := sec) (i := 9) X7.jw.ra (rok_dead n sec dd) (by omega) l71 hcap6 (by omega) X7.rl.r (by omega) (by omega) hPu
  have HPT := Lib.hid (And.intro hPT (hK'.le (show 0 + 256 * sl.length ≤ 1000000000000 by omega)))
  obtain ⟨⟨c0, c1, c2⟩, c3, c4⟩ := X7.cells
  have HX7 := Lib.hid (And.intro X7 (And.intro g71 (And.intro l71 g72)))
  clear hU hPu hPT hK' X7 g71 l71 g72 hcap6
  go_wp2_with (fail)
  refine cPu.mono ?_
  rintro e w8 ⟨vL, rfl, S8, s8, a8, oL, nL⟩
  have HX8 := Lib.hid (And.intro (HX7.out.1.stp s8 a8) (And.intro (HX7.out.2.1.stp s8) (And.intro (HX7.out.2.2.1.stp s8) (HX7.out.2.2.2.stp s8))))
  obtain ⟨xL, yL, hvL⟩ := oL.reads.form
  rw [List.length_map] at hvL
  subst hvL
  have OL := Lib.hid oL.reads
  clear cPu HX7 s8 a8 oL nL c0 c1 c2 c3 c4
  go_wp2_with (fail)
  go_loopw [21, 22] (fun s21x t wr => ∃ (i : Nat) (s21 : Value), s21 = s21x ∧ i ≤ sl.length ∧ t = .int .i64 (i : Int) ∧ Own wr w8.heap.size 3 s21 ((deadL (deadR sec dd) (sl.take i)).map (.int .i64)) ∧ Below w8.heap.size w8 wr) (fun _ t _ => sl.length - (RowKit.intOf t).toNat)
  case atStart => exact ⟨0, _, rfl, Nat.zero_le _, rfl, Own.nil _ _ _, Below.refl _ _⟩
  case round =>
    obtain ⟨i, s21, rfl, hi, rfl, ho, hB⟩ := hrel
    rename World => wr
    by_cases hlt : i < sl.length
    · have y1 : (i : Int) < (sl.length : Int) := by omega
      have hli := (HX8.out.2.2.1.after hB).r
      obtain ⟨va', vc', hv', hit⟩ := Reads.items hli
      obtain ⟨rfl, rfl⟩ : pa3 = va' ∧ pc3 = vc' := by injection hv' with z1 z2 z3; exact ⟨z1, z3⟩
      clear hv'
      obtain ⟨cb, co, rfl, _, hc0⟩ := hit i hlt
      have hxr := HNm.out.rng sl[i] (List.getElem_mem hlt)
      have hsu := dead_take (R := deadR sec dd) hlt
      obtain ⟨j, hj⟩ := Int.eq_ofNat_of_zero_le hxr.1
      rw [hj] at hc0 hxr hsu
      have hjn : j < n := by omega
      have hjI : (j : Int) < (n : Int) := hxr.2
      have cj := (HX8.out.2.2.2.after hB).cell (i := j) (by rw [hdl]; exact hjn)
      rw [Int.toNat_natCast, show ((deadR sec dd).M j).fd = dd.getD j false from rfl] at hsu
      have hln : (deadL (deadR sec dd) (sl.take i)).length ≤ 30 := Nat.le_trans dead_len (by rw [List.length_take]; omega)
      by_cases hgj : dd.getD j false = true
      · rw [hgj] at cj
        rw [if_pos hgj] at hsu
        obtain ⟨i3, q1, q2, q3, q4⟩ := info_parts Tryz.infoI
        obtain ⟨v9, w9, hap, o9, b9, _, _⟩ := Own.pushA (P := Tryz.prog) (T := 24) Tryz.underlying24 q1 q2 q3 q4 rfl ho (.int .i64 (j : Int)) rfl hB.size (by rw [List.length_map]; omega) (by rw [List.length_map]; omega)
        have hnx : (deadL (deadR sec dd) (sl.take i)).map (Value.int .i64) ++ [.int .i64 (j : Int)] = (deadL (deadR sec dd) (sl.take (i + 1))).map (Value.int .i64) := by rw [hsu, List.map_append]; rfl
        rw [hnx] at o9
        have HO := Lib.hid (And.intro o9 (hB.trans b9))
        clear o9 b9 hnx ho hB hsu q1 q2 q3 q4 hgj hit hj hjn hli hln hxr
        go_wp2_with (at_builtin; refine wpList_append_run hap _ _ rfl rfl rfl rfl rfl ?_)
        go_roundw
        case rel => exact ⟨i + 1, _, rfl, by omega, by go_num, HO.out.1, HO.out.2⟩
        case measure => simp [RowKit.intOf]; omega
      · rw [if_neg hgj] at hsu
        rw [show dd.getD j false = false by simpa using hgj] at cj
        have HO := Lib.hid (And.intro (show Own wr w8.heap.size 3 s21 ((deadL (deadR sec dd) (sl.take (i + 1))).map (.int .i64)) by rw [hsu]; exact ho) hB)
        clear ho hB hsu hgj hit hj hjn hli hln hxr
        go_wp2_with (fail)
        go_roundw
        case rel => exact ⟨i + 1, _, rfl, by omega, by go_num, HO.out.1, HO.out.2⟩
        case measure => simp [RowKit.intOf]; omega
    · obtain rfl : i = sl.length := by omega
      have y1 : ¬ ((sl.length : Int) < (sl.length : Int)) := by omega
      rw [List.take_length] at ho
      obtain ⟨xa, ya, hva⟩ := ho.reads.form
      rw [List.length_map] at hva
      subst hva
      have hdl30 : (deadL (deadR sec dd) sl).length ≤ 30 := Nat.le_trans dead_len hsl
      have cI := ints8_any _ _ _ _ wr (OL.out.below hB) ho.reads (by omega) (by omega)
      rw [decide_eq_true rfl] at cI
      have HX9 := Lib.hid (And.intro (HX8.out.1.after hB) (And.intro (HX8.out.2.1.after hB) (HX8.out.2.2.2.after hB)))
      generalize (deadL (deadR sec dd) sl).length = dn at *
      clear ho hB OL HX8 hdl30
      go_wp2_with (fail)
      refine cI.mono ?_
      rintro e w9 ⟨rfl, b9, _⟩
      have HX10 := Lib.hid (And.intro (HX9.out.1.after b9) (And.intro (HX9.out.2.1.after b9) (HX9.out.2.2.after b9)))
      clear cI HX9 b9 y1
      go_wp2_with (fail)
      go_loopw [23] (fun t wr => ∃ (i : Nat), i ≤ n ∧ t = .int .i64 (i : Int) ∧ Below w9.heap.size w9 wr) (fun t _ => n - (RowKit.intOf t).toNat)
      case atStart => exact ⟨0, Nat.zero_le _, rfl, Below.refl _ _⟩
      case round =>
        obtain ⟨i, hi, rfl, hB⟩ := hrel
        rename World => wr
        have X10 := HX10.out.1.after hB
        have h1 := HX10.out.2.1.after hB
        have h2 := HX10.out.2.2.after hB
        by_cases hlt : i < n
        · have y1 : (i : Int) < (k : Int) + (m : Int) := by have := HNK.out.1; omega
          have hBest := best_one HG.out (dead_up (sec := sec) (dd := dd) (by have := HNK.out.2.2.1; omega) HNK.out.2.2.2) HR.out (i := 9) (by omega) (by omega) dead_zer HPT.out.1 hlt
          rw [show ((deadR sec dd).M i).fd = dd.getD i false from rfl] at hBest
          have hiff := HNm.out.iff i hlt
          have cLa : Calls Tryz.prog 19 #[.pointer (some ⟨ka, 0, none⟩), .int .i64 9, .agg #[.int .i64 (k : Int), .int .i64 (m : Int), .int .i64 B], .slice (some ⟨wr.heap.size, 0, none⟩) 1 1] (wr.alloc (.cells #[.int .i64 (i : Int)] 3)) (LastTo (wr.alloc (.cells #[.int .i64 (i : Int)] 3)) (bestM n R' ((9 : Nat) : Int) (k : Int) (m : Int) B [(i : Int)], 0)) :=
            best_law (i := 9) HG.out HPT.out.1.u (by omega) (by omega) (X10.after ((Below.refl _ wr).alloc (Nat.le_refl _) _)).jw.ra HPT.out.2 (lsn_new (fun q hq => X10.jw.ra.lt q hq) (Nat.le_refl _) [(i : Int)] 1 rfl) (Nat.le_refl _) (by simp) (fun x hx => by rw [List.mem_singleton.1 hx]; omega) (by simp)
          have bN : Below wr.heap.size wr (wr.alloc (.cells #[.int .i64 (i : Int)] 3)) := (Below.refl _ wr).alloc (Nat.le_refl _) _
          have hjI : (i : Int) < (n : Int) := by omega
          have cI1 := h1.cell (i := i) (by rw [HNm.out.len]; exact hlt)
          have cI2 := h2.cell (i := i) (by rw [hdl]; exact hlt)
          have HC : Hid (∀ W, Below wr.heap.size wr W → (W.cell? ⟨p1, i, none⟩ = some (.bool (ins.getD i false)) ∧ W.cell? ⟨p2, i, none⟩ = some (.bool (dd.getD i false))) ∧ RW w4 S8 W ka n g (g + 1) (k : Int) (m : Int) B q (.slice va l.length vc) l R') := Lib.hid fun W hW => ⟨⟨(h1.after hW).cell (i := i) (by rw [HNm.out.len]; exact hlt), (h2.after hW).cell (i := i) (by rw [hdl]; exact hlt)⟩, X10.after hW⟩
          obtain ⟨⟨c0, c1, c2⟩, c3, c4⟩ := X10.cells
          have HBx := Lib.hid (And.intro hB bN)
          clear X10 h1 h2 hB bN cI1 cI2
          by_cases hT : ins.getD i false = true ∧ dd.getD i false = false
          · rw [if_pos ⟨by rw [hT.1] at hiff; simpa using hiff.symm, hT.2⟩] at hBest
            rw [hBest] at cLa
            have cLa2 := last_some cLa
            rw [hT.1, hT.2] at HC
            clear hBest hT hiff cLa
            go_wp2_with (fail)
            refine cLa2.mono ?_
            rintro e wa ⟨v2, l2', rfl, f2, hp2, b2⟩
            obtain ⟨x2, y2, rfl⟩ := f2.isSlice
            have hF := pr_facts hp2 (right_reads HR.out) q
            have bw := HBx.out.2.trans (b2.mono HBx.out.2.size)
            have ba : Below wa.heap.size wa (wa.alloc (.cells #[.int .i64 q, .slice x2 l2'.length y2] 30)) := (Below.refl _ _).alloc (Nat.le_refl _) _
            have hT := RBx.made wa q (.slice x2 l2'.length y2) 30
            have hSR := (f2.reads hF.2.2).below ba
            obtain ⟨⟨cA, cB⟩, hX⟩ := HC.out _ (bw.trans (ba.mono bw.size))
            obtain ⟨_, c8, c9⟩ := hX.cells
            have cSm := rsame11_any q q (.slice x2 l2'.length y2) (.slice va l.length vc) l2' l _ hSR hX.rl.r (by rw [hF.2.1]; omega)
            rw [hF.1] at cSm
            have t0 := hT.c0
            have t1 := hT.c1
            have HBy := Lib.hid (HBx.out.1.trans ((bw.trans (ba.mono bw.size)).mono HBx.out.1.size))
            clear cLa2 f2 hp2 hF bw ba hT hSR hX HC HBx c0 c1 c2 c3 c4
            go_wp2_with (fail)
            refine cSm.mono ?_
            rintro e wb ⟨rfl, bb⟩
            have HBz := Lib.hid (HBy.out.trans (bb.mono HBy.out.size))
            clear cSm HBy bb cA cB c8 c9 t0 t1
            go_wp2_with (fail)
            go_roundw
            case rel => exact ⟨i + 1, by omega, by go_num, HBz.out⟩
            case measure => simp [RowKit.intOf]; omega
          · rw [if_neg (fun z => hT ⟨by rw [hiff]; simpa using z.1, z.2⟩)] at hBest
            rw [hBest] at cLa
            have cLa2 := last_none cLa
            clear hBest hiff cLa
            go_wp2_with (fail)
            refine cLa2.mono ?_
            rintro e wa ⟨x2, y2, rfl, b2⟩
            have bw := HBx.out.2.trans (b2.mono HBx.out.2.size)
            have ba : Below wa.heap.size wa (wa.alloc (.cells #[.int .i64 0, .slice x2 0 y2] 30)) := (Below.refl _ _).alloc (Nat.le_refl _) _
            obtain ⟨⟨cA, cB⟩, hX⟩ := HC.out _ (bw.trans (ba.mono bw.size))
            have HBy := Lib.hid (HBx.out.1.trans ((bw.trans (ba.mono bw.size)).mono HBx.out.1.size))
            clear cLa2 bw ba hX HC HBx c0 c1 c2 c3 c4
            rcases Bool.eq_false_or_eq_true (ins.getD i false) with e1 | e1
            · rcases Bool.eq_false_or_eq_true (dd.getD i false) with e2 | e2
              · rw [e1] at cA
                rw [e2] at cB
                clear hT e1 e2
                go_wp2_with (fail)
                go_roundw
                case rel => exact ⟨i + 1, by omega, by go_num, HBy.out⟩
                case measure => simp [RowKit.intOf]; omega
              · exact absurd ⟨e1, e2⟩ hT
            · rw [e1] at cA
              clear hT e1
              go_wp2_with (fail)
              go_roundw
              case rel => exact ⟨i + 1, by omega, by go_num, HBy.out⟩
              case measure => simp [RowKit.intOf]; omega
        · obtain rfl : i = n := by omega
          have y1 : ¬ ((i : Int) < (k : Int) + (m : Int)) := by have := HNK.out.1; omega
          have hfin : Hid (Below w.heap.size w wr) := Lib.hid (HBw.out.trans (X10.jw.ra.b.mono HBw.out.size))
          clear X10 h1 h2 hB
          go_wp2_with (fail)
          go_ret
          exact ⟨rfl, hfin.out⟩
end Go.Proofs.YtfadglcpapiklaaGreatDoor
