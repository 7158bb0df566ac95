/- record: what comes out is new memory. -/
import Derived.Test.YtdbjfofnkijmoaaDoorRecLaw3
namespace Go.Proofs.YtdbjfofnkijmoaaDoor
open Go.RowKit
set_option linter.unusedVariables false
set_option linter.unusedSimpArgs false

open Rc
theorem SFam.lt {w : World} {B C : Nat} {v : Value} {l : List St} (h : SFam w B v l) (hC : w.heap.size ≤ C) : ∀ u, (u = v ∨ ∃ s ∈ l, u = s.v) → ∀ k, u.ownBlock = some k → k < C := fun u hu k hk => by have := (h.old u hu k hk).2; omega
/-- A list whose values and lengths are another one's. -/
structure Like (l0 l : List St) : Prop where
  v : l.map St.v = l0.map St.v
  d : l.map (fun s => s.d.length) = l0.map fun s => s.d.length
theorem Like.len {l0 l : List St} (h : Like l0 l) : l.length = l0.length := by have := congrArg List.length h.v; simpa using this
theorem Like.refl (l : List St) : Like l l := ⟨rfl, rfl⟩
theorem Like.setN {l0 l : List St} (h : Like l0 l) {i : Nat} (hi : i < l.length) (n : Int) : Like l0 (l.set i { l[i] with n := n }) := by
  refine ⟨?_, ?_⟩
  · rw [← h.v]
    apply List.ext_getElem (by simp)
    intro j h1 h2
    simp only [List.getElem_map, List.getElem_set]
    split
    · subst i; rfl
    · rfl
  · rw [← h.d]
    apply List.ext_getElem (by simp)
    intro j h1 h2
    simp only [List.getElem_map, List.getElem_set]
    split
    · subst i; rfl
    · rfl
theorem Like.setT {l0 l : List St} (h : Like l0 l) {i : Nat} (hi : i < l.length) (j : Nat) (t : ByteArray) : Like l0 (l.set i { l[i] with d := l[i].d.set j t }) := by
  refine ⟨?_, ?_⟩
  · rw [← h.v]
    apply List.ext_getElem (by simp)
    intro j h1 h2
    simp only [List.getElem_map, List.getElem_set]
    split
    · subst i; rfl
    · rfl
  · rw [← h.d]
    apply List.ext_getElem (by simp)
    intro j h1 h2
    simp only [List.getElem_map, List.getElem_set]
    split
    · subst i; simp
    · rfl
theorem Like.lt {l0 l : List St} (h : Like l0 l) {C : Nat} (hC : ∀ s ∈ l0, ∀ k, s.v.ownBlock = some k → k < C) : ∀ s ∈ l, ∀ k, s.v.ownBlock = some k → k < C := fun s hs k hk => by
  have : s.v ∈ l0.map St.v := by rw [← h.v]; exact List.mem_map.2 ⟨s, hs, rfl⟩
  obtain ⟨s', hs', e⟩ := List.mem_map.1 this
  exact hC s' hs' k (by rw [e]; exact hk)
theorem Like.dl {l0 l : List St} (h : Like l0 l) {k : Nat} (hk : ∀ s ∈ l0, s.d.length = k) : ∀ s ∈ l, s.d.length = k := fun s hs => by
  have : s.d.length ∈ l0.map fun s => s.d.length := by rw [← h.d]; exact List.mem_map.2 ⟨s, hs, rfl⟩
  obtain ⟨s', hs', e⟩ := List.mem_map.1 this
  rw [← e]; exact hk s' hs'
set_option maxRecDepth 100000 in
set_option maxHeartbeats 4000000 in
theorem rown_walk (r : Raw) (vs vl : Value) (w : World) (hok : RawOk r) (hst : Reads w vs (r.st.map (.int .i64))) (hle : Reads w vl (r.le.map (.int .i64))) :
    Calls Tryd.prog 7 #[r.v vs vl] w fun e w' => e = .returned (.bool true) ∧ Below w.heap.size w w' := by
  obtain ⟨p, hp⟩ : ∃ p, w.heap.size = p := ⟨_, rfl⟩
  have A0 := RwB.made w r vs vl 42
  have b0 : Below p w (w.alloc (.cells #[.int .i64 r.k, .int .i64 r.m, .int .i64 r.b, .int .i64 r.q, vs, vl] 42)) := (Below.refl _ _).alloc (by omega) _
  rw [hp] at A0
  obtain ⟨sa, sc, hvs⟩ := hst.isSlice
  obtain ⟨la, lc, hvl⟩ := hle.isSlice
  rw [List.length_map] at hvs hvl
  subst hvs
  subst hvl
  unfold Raw.v
  go_enter Tryd.func7, Tryd.ntmps7
  go_wp2_with (fail)
  replace hp := Lib.hid hp
  generalize w.alloc (.cells #[.int .i64 r.k, .int .i64 r.m, .int .i64 r.b, .int .i64 r.q, (.slice sa r.st.length sc), (.slice la r.le.length lc)] 42) = w0 at *
  refine (awake11_any _).mono ?_
  rintro e w1 ⟨rfl, b1⟩
  have A1 := A0.below b1 A0.lt
  have B1 := b0.trans (b1.mono (by have := A0.lt; omega))
  have hst1 := hst.below (by rw [hp.out]; exact B1)
  have hle1 := hle.below (by rw [hp.out]; exact B1)
  clear A0 b0 b1 hst hle
  have e0 := A1.a0
  have e1 := A1.a1
  have e2 := A1.a2
  have e3 := A1.a3
  have e4 := A1.a4
  have e5 := A1.a5
  have cF := fit11_any r _ _ w1 hok hst1 hle1
  unfold Raw.v at cF
  go_wp2_with (fail)
  refine cF.mono ?_
  rintro e wf1 ⟨v1, l1, rfl, F1, hl1, bf1⟩
  clear e0 e1 e2 e3 e4 e5 cF
  have hR1 := fit_ok11 r hl1
  have hf1 := right_f hR1
  obtain ⟨va1, vc1, ev⟩ := F1.o.isSlice
  subst ev
  have LL1 := F1.reads (right_reads hR1)
  obtain ⟨g1, hg1⟩ : ∃ g, wf1.heap.size = g := ⟨_, rfl⟩
  have GG1 := GBx.made wf1 (fK r.k) (fM r.m) (fB r.b) 23
  have bb : Below g1 wf1 (wf1.alloc (.cells #[.int .i64 (fK r.k), .int .i64 (fM r.m), .int .i64 (fB r.b)] 23)) := (Below.refl _ _).alloc (by omega) _
  have s3 : (wf1.alloc (.cells #[.int .i64 (fK r.k), .int .i64 (fM r.m), .int .i64 (fB r.b)] 23)).heap.size = g1 + 1 := by simp [hg1]
  have X1 := RBx.made (wf1.alloc (.cells #[.int .i64 (fK r.k), .int .i64 (fM r.m), .int .i64 (fB r.b)] 23)) (fitQ r) (.slice va1 l1.length vc1) 26
  have b4 : Below (g1 + 1) (wf1.alloc (.cells #[.int .i64 (fK r.k), .int .i64 (fM r.m), .int .i64 (fB r.b)] 23)) ((wf1.alloc (.cells #[.int .i64 (fK r.k), .int .i64 (fM r.m), .int .i64 (fB r.b)] 23)).alloc (.cells #[.int .i64 (fitQ r), .slice va1 l1.length vc1] 26)) := (Below.refl _ _).alloc (by omega) _
  rw [hg1] at GG1
  rw [s3] at X1
  have G1 := GG1.below b4 (by omega)
  have bd1 : Below wf1.heap.size wf1 ((wf1.alloc (.cells #[.int .i64 (fK r.k), .int .i64 (fM r.m), .int .i64 (fB r.b)] 23)).alloc (.cells #[.int .i64 (fitQ r), .slice va1 l1.length vc1] 26)) := by rw [hg1]; exact bb.trans (b4.mono (by omega))
  have L1 := LL1.below bd1
  have F1' := F1.after bd1
  have bt1 := bf1.trans (bd1.mono bf1.size)
  have hsz1 := bf1.size
  go_upto_region 3 with (fail)
  generalize (wf1.alloc (.cells #[.int .i64 (fK r.k), .int .i64 (fM r.m), .int .i64 (fB r.b)] 23)).alloc (.cells #[.int .i64 (fitQ r), .slice va1 l1.length vc1] 26) = wg1 at *
  clear LL1 GG1 bb s3 b4 bd1 F1
  have A2 := A1.below bt1 A1.lt
  have hst2 := hst1.below bt1
  have hle2 := hle1.below bt1
  have B2 := B1.trans (bt1.mono (by have := A1.lt; omega))
  have hpg : p < g1 := by have := A1.lt; omega
  replace hg1 := Lib.hid hg1
  clear A1 B1 bt1 hst1 hle1 bf1 hsz1
  have e0 := A2.a0
  have e1 := A2.a1
  have e2 := A2.a2
  have e3 := A2.a3
  have e4 := A2.a4
  have e5 := A2.a5
  have cF := fit11_any r _ _ wg1 hok hst2 hle2
  unfold Raw.v at cF
  go_wp2_with (fail)
  refine cF.mono ?_
  rintro e wf2 ⟨v2, l2, rfl, F2, hl2, bf2⟩
  clear e0 e1 e2 e3 e4 e5 cF
  have hR2 := fit_ok11 r hl2
  have hf2 := right_f hR2
  obtain ⟨va2, vc2, ev⟩ := F2.o.isSlice
  subst ev
  have LL2 := F2.reads (right_reads hR2)
  obtain ⟨g2, hg2⟩ : ∃ g, wf2.heap.size = g := ⟨_, rfl⟩
  have GG2 := GBx.made wf2 (fK r.k) (fM r.m) (fB r.b) 23
  have bb : Below g2 wf2 (wf2.alloc (.cells #[.int .i64 (fK r.k), .int .i64 (fM r.m), .int .i64 (fB r.b)] 23)) := (Below.refl _ _).alloc (by omega) _
  have s3 : (wf2.alloc (.cells #[.int .i64 (fK r.k), .int .i64 (fM r.m), .int .i64 (fB r.b)] 23)).heap.size = g2 + 1 := by simp [hg2]
  have X2 := RBx.made (wf2.alloc (.cells #[.int .i64 (fK r.k), .int .i64 (fM r.m), .int .i64 (fB r.b)] 23)) (fitQ r) (.slice va2 l2.length vc2) 26
  have b4 : Below (g2 + 1) (wf2.alloc (.cells #[.int .i64 (fK r.k), .int .i64 (fM r.m), .int .i64 (fB r.b)] 23)) ((wf2.alloc (.cells #[.int .i64 (fK r.k), .int .i64 (fM r.m), .int .i64 (fB r.b)] 23)).alloc (.cells #[.int .i64 (fitQ r), .slice va2 l2.length vc2] 26)) := (Below.refl _ _).alloc (by omega) _
  rw [hg2] at GG2
  rw [s3] at X2
  have G2 := GG2.below b4 (by omega)
  have bd2 : Below wf2.heap.size wf2 ((wf2.alloc (.cells #[.int .i64 (fK r.k), .int .i64 (fM r.m), .int .i64 (fB r.b)] 23)).alloc (.cells #[.int .i64 (fitQ r), .slice va2 l2.length vc2] 26)) := by rw [hg2]; exact bb.trans (b4.mono (by omega))
  have L2 := LL2.below bd2
  have F2' := F2.after bd2
  have bt2 := bf2.trans (bd2.mono bf2.size)
  have hsz2 := bf2.size
  go_upto_region 4 with (fail)
  generalize (wf2.alloc (.cells #[.int .i64 (fK r.k), .int .i64 (fM r.m), .int .i64 (fB r.b)] 23)).alloc (.cells #[.int .i64 (fitQ r), .slice va2 l2.length vc2] 26) = wg2 at *
  clear LL2 GG2 bb s3 b4 bd2 F2
  have G3 := G1.below bt2 G1.lt
  have X3 := X1.below bt2 X1.lt
  have L3 := L1.below bt2
  have B3 := B2.trans (bt2.mono (by have := G1.lt; omega))
  have B6k := Lib.hid B3
  have hpr : l1.map pr = l2.map pr := by rw [hl1, hl2]
  have hsm : sameB (fitQ r) l1 (fitQ r) l2 = true := same_pr hpr
  replace hg2 := Lib.hid hg2
  have hn1 := hf1.n
  have hk1 := hf1.k
  have hdk : ∀ s ∈ l1, s.d.length = (fK r.k).toNat := fun s hs => by have := hf1.d s hs; omega
  clear A2 B2 bt2 hst2 hle2 hok G1 X1 L1 bf2 hsz2 F1' F2' G2 hl1 hl2 hpr hR2 hf2
  generalize fK r.k = K at *
  generalize fM r.m = M at *
  generalize fB r.b = Bb at *
  generalize fitQ r = q at *
  have hLd := laid_nil (right_ord hR1)
  have hLt := laid_take hR1 hLd
  have hLs := lay_size (right_ord hR1)
  have hal := allT_len hdk
  have hzz := hf1.z
  have haz : ∀ t ∈ allT l1, t.size ≤ 140737488355328 := fun t ht => by
    obtain ⟨s, hs, ht⟩ := List.mem_flatMap.1 ht
    have := hzz s hs t ht; omega
  have ha64 : (allT l1).length ≤ 64 := by rw [hal]; exact Nat.le_trans (Nat.mul_le_mul hn1.2 (show K.toNat ≤ 4 by omega)) (by decide)
  have cL := fun W (h : SReads W (.slice va1 l1.length vc1) l1) => lay_right (K := K) (M := M) (B := Bb) (q := q) h (by omega) hR1
  have cT := fun W v h hc => take11_any K M Bb (layS q l1) v (allT l1) W (by omega) h haz (by omega) hc
  unfold GivesTk at cT
  rw [hLt.1, hLt.2, hLd.q] at cT
  simp only [if_true] at cT
  have hsame : Hid (∀ m : List St, m.map pr = l1.map pr → sameB q m q l1 = true) := Lib.hid fun m hm => same_pr hm
  have hmr : Hid (∀ m : List St, m.map pr = l1.map pr → m.length = l1.length ∧ (∀ s ∈ m, s.d.length ≤ 140737488355328 ∧ ∀ t ∈ s.d, t.size ≤ 140737488355328) ∧ ∀ s ∈ m, s.d.length = K.toNat) := Lib.hid fun m hm => ⟨by have := congrArg List.length hm; simpa using this, right_reads (right_pr hm hR1), fun s hs => by have := (right_f (right_pr hm hR1)).d s hs; omega⟩
  clear hLd hLt hLs hR1 hf1 hzz haz hdk
  replace hal := Lib.hid hal
  generalize layS q l1 = S at *
  generalize allT l1 = AA at *
  have e0 := G3.c0
  have e1 := G3.c1
  have e2 := G3.c2
  have e3 := X3.c0
  have e4 := X3.c1
  go_wp2_with (fail)
  refine (cL _ L3).mono ?_
  rintro e w5 ⟨u, rfl, o5, b5⟩
  have L3' := Lib.hid L3
  have L2' := Lib.hid L2
  have hcap := o5.room
  have G5 := G3.below b5 G3.lt
  have X5 := X3.below b5 X3.lt
  have Y5 := X2.below b5 X2.lt
  have B5 := B3.trans (b5.mono (by have := G3.lt; omega))
  have hgg1 := X3.lt
  have hgg2 := X2.lt
  have hsz5 := b5.size
  obtain ⟨ua, uc, ev⟩ := o5.isSlice
  rw [List.length_map] at ev
  subst ev
  have ob := Lib.hid o5.o.lt
  clear e0 e1 e2 e3 e4 G3 X3 X2 B3 cL L3 L2
  have e0 := G5.c0
  have e1 := G5.c1
  have e2 := G5.c2
  go_wp2_with (fail)
  refine (cT _ _ o5.reads hcap).mono ?_
  rintro e w6 ⟨vt, m0, rfl, ft, hm, b6⟩
  have H5 : Hid (GBx w5 g1 K M Bb ∧ RBx w5 (g1 + 1) q (.slice va1 l1.length vc1) ∧ RBx w5 (g2 + 1) q (.slice va2 l2.length vc2) ∧ Own w5 wg2.heap.size 9 (.slice ua AA.length uc) (AA.map .string) ∧ Below p w w5) := Lib.hid ⟨G5, X5, Y5, o5, B5⟩
  obtain ⟨hml, hmd, hmk⟩ := hmr.out m0 hm
  have b56 := b5.trans (b6.mono hsz5)
  have G6 := G5.below b6 G5.lt
  have X6 := X5.below b6 X5.lt
  have Y6 := Y5.below b6 Y5.lt
  have o6 := o5.after b6
  have B6 := B5.trans (b6.mono (by have := G5.lt; omega))
  obtain ⟨yb, tc, rfl, hyb1, hyb2⟩ := ft.o.form (by omega)
  rw [hml] at ft ⊢
  clear e0 e1 e2 G5 X5 Y5 B5 o5 hmd hm
  obtain ⟨y, hy⟩ : ∃ y, w6.heap.size = y := ⟨_, rfl⟩
  have T7 := RBx.made w6 q (.slice (some ⟨yb, 0, none⟩) l1.length tc) 26
  have bb : Below w6.heap.size w6 (w6.alloc (.cells #[.int .i64 q, .slice (some ⟨yb, 0, none⟩) l1.length tc] 26)) := (Below.refl _ _).alloc (Nat.le_refl _) _
  have hold := ft.lt (C := y) (by omega)
  have f7 := ft.after bb
  have b57 := b6.trans (bb.mono b6.size)
  have hs6 := b6.size
  rw [hy] at T7
  go_upto_region 6 with (fail)
  have hI0 : Hid (Below w5.heap.size w5 (w6.alloc (.cells #[.int .i64 q, .slice (some ⟨yb, 0, none⟩) l1.length tc] 26)) ∧ RBx (w6.alloc (.cells #[.int .i64 q, .slice (some ⟨yb, 0, none⟩) l1.length tc] 26)) y q (.slice (some ⟨yb, 0, none⟩) l1.length tc) ∧ SFam (w6.alloc (.cells #[.int .i64 q, .slice (some ⟨yb, 0, none⟩) l1.length tc] 26)) w5.heap.size (.slice (some ⟨yb, 0, none⟩) l1.length tc) m0 ∧ Like m0 m0) := Lib.hid ⟨b57, T7, f7, Like.refl _⟩
  replace hy := Lib.hid hy
  have hymin : w5.heap.size ≤ y := by have := hy.out; omega
  generalize hw7 : w6.alloc (.cells #[.int .i64 q, .slice (some ⟨yb, 0, none⟩) l1.length tc] 26) = w7 at *
  clear hw7 T7 f7 b57 bb
  have hold' := Lib.hid hold
  clear hold b6
  have G6' := Lib.hid G6
  clear G6 X6 Y6 o6 B6 b56 G6'
  obtain ⟨kk, hkk⟩ : ∃ kk, K.toNat = kk := ⟨_, rfl⟩
  rw [hkk] at hmk
  replace hkk := Lib.hid hkk
  have hmk' := Lib.hid hmk
  have hml' := Lib.hid hml
  clear hmk hml ft
  have hybm : w5.heap.size ≤ yb := hyb1
  have hyy : yb < y := by have := hy.out; omega
  clear hyb1 hyb2
  have hcap' := Lib.hid hcap
  clear hcap
  generalize hn : l1.length = n at *
  replace hn := Lib.hid hn
  go_wp2_with (fail)
  go_loopw [13] (fun t wr => ∃ (i : Nat) (m : List St), i ≤ n ∧ t = .int .i64 (i : Int) ∧ Below w5.heap.size w5 wr ∧ RBx wr y q (.slice (some ⟨yb, 0, none⟩) n tc) ∧ SFam wr w5.heap.size (.slice (some ⟨yb, 0, none⟩) n tc) m ∧ Like m0 m) (fun t _ => n - (intOf t).toNat)
  case atStart => exact ⟨0, m0, by omega, rfl, hI0.out.1, hI0.out.2.1, hI0.out.2.2.1, hI0.out.2.2.2⟩
  case round =>
    obtain ⟨i, m, hi, rfl, bw, T0, f0, lk⟩ := hrel
    rename World => wr
    clear hI0
    have hmn : m.length = n := by rw [lk.len]; exact hml'.out
    by_cases hlt : i < n
    · have y1 : (i : Int) < (n : Int) := by omega
      have him : i < m.length := by omega
      have e1 := T0.c1
      have c0 : wr.cell? ⟨yb, i * 2, none⟩ = some (.int .i64 m[i].n) := f0.o.cell (i := i) him (j := 0) (by decide)
      have d0 := f0.o.frozen (i * 2)
      have f1 := f0.setN him (-1)
      have lk1 := lk.setN him (-1)
      have T1 := T0.heap (Below.heap_setCell wr ⟨yb, i * 2, none⟩ (.int .i64 (-1)) y (by show y ≠ yb; omega)) (by simp)
      have bw1 := bw.setCell (p := ⟨yb, i * 2, none⟩) (by show w5.heap.size ≤ yb; omega) (.int .i64 (-1))
      have hI1 : Hid (Below w5.heap.size w5 (wr.setCell ⟨yb, i * 2, none⟩ (.int .i64 (-1))) ∧ RBx (wr.setCell ⟨yb, i * 2, none⟩ (.int .i64 (-1))) y q (.slice (some ⟨yb, 0, none⟩) n tc) ∧ SFam (wr.setCell ⟨yb, i * 2, none⟩ (.int .i64 (-1))) w5.heap.size (.slice (some ⟨yb, 0, none⟩) n tc) (m.set i { m[i] with n := -1 }) ∧ Like m0 (m.set i { m[i] with n := -1 })) := Lib.hid ⟨bw1, T1, f1, lk1⟩
      clear f1 lk1 T1 bw1 T0 f0 lk bw
      go_wp2_with (fail)
      clear c0 d0 e1
      generalize wr.setCell ⟨yb, i * 2, none⟩ (.int .i64 (-1)) = w8 at *
      go_loopw [14] (fun t wr => ∃ (j : Nat) (m : List St), j ≤ kk ∧ t = .int .i64 (j : Int) ∧ Below w5.heap.size w5 wr ∧ RBx wr y q (.slice (some ⟨yb, 0, none⟩) n tc) ∧ SFam wr w5.heap.size (.slice (some ⟨yb, 0, none⟩) n tc) m ∧ Like m0 m) (fun t _ => kk - (intOf t).toNat)
      case atStart => exact ⟨0, _, by omega, rfl, hI1.out.1, hI1.out.2.1, hI1.out.2.2.1, hI1.out.2.2.2⟩
      case round =>
        obtain ⟨j, m2, hj, rfl, bw, T0, f0, lk⟩ := hrel
        rename World => wr
        clear hI1
        have hm2 : m2.length = n := by rw [lk.len]; exact hml'.out
        have him2 : i < m2.length := by omega
        have hin : m2[i] ∈ m2 := List.getElem_mem him2
        have hdl := lk.dl hmk'.out _ hin
        have hk4 : kk ≤ 4 := by have := hkk.out; omega
        have hk1' : 1 ≤ kk := by have := hkk.out; omega
        obtain ⟨bl, c', hv, hbl1, hbl2⟩ := (f0.d _ hin).form (by rw [List.length_map]; omega)
        rw [List.length_map, hdl] at hv
        have hbly : bl < y := lk.lt (fun s hs k hk => hold'.out s.v (.inr ⟨s, hs, rfl⟩) k hk) _ hin bl (by rw [hv]; rfl)
        have e1 := T0.c1
        have cy : wr.cell? ⟨yb, i * 2 + 1, none⟩ = some (.slice (some ⟨bl, 0, none⟩) kk c') := by
          have := f0.o.cell (i := i) him2 (j := 1) (by decide)
          rw [show (stE.f m2[i])[1]? = some (cell1 m2[i].v) from rfl, hv, cell1_slice] at this
          exact this
        by_cases hjm : j < kk
        · have y2 : (j : Int) < (kk : Int) := by omega
          have own := f0.d _ hin
          rw [hv] at own
          have ct := own.cell (i := j) (by rw [List.length_map, hdl]; exact hjm)
          have cf := own.frozen j
          have f2 := Lib.hid (f0.setT him2 hv j ⟨#[]⟩)
          have lk2 := Lib.hid (lk.setT him2 j ⟨#[]⟩)
          clear own hin hdl f0 lk
          go_wp2_with (fail)
          go_roundw
          case rel =>
            refine ⟨j + 1, _, by omega, by go_num, bw.setCell (p := ⟨bl, j, none⟩) (by show w5.heap.size ≤ bl; omega) _, T0.heap (Below.heap_setCell _ _ _ _ (by show y ≠ bl; omega)) (by simp), f2.out, lk2.out⟩
          case measure => simp [intOf]; omega
        · obtain rfl : j = kk := by omega
          have y2 : ¬ ((j : Int) < (j : Int)) := by omega
          clear hin hdl hv
          go_wp2_with (fail)
          go_roundw
          case rel => exact ⟨i + 1, m2, by omega, by go_num, bw, T0, f0, lk⟩
          case measure => simp [intOf]; omega
    · obtain rfl : i = n := by omega
      have y1 : ¬ ((i : Int) < (i : Int)) := by omega
      have e1 := T0.c1
      obtain ⟨G5, X5, Y5, o5, B5⟩ := H5.out
      have G6 := G5.below bw G5.lt
      have X6 := X5.below bw X5.lt
      have Y6 := Y5.below bw Y5.lt
      have o6 := o5.after bw
      have B6 := B5.trans (bw.mono (by have := G5.lt; omega))
      have b56 := b5.trans (bw.mono hsz5)
      have hws := bw.size
      clear T0 f0 lk bw G5 X5 Y5 o5 B5 hold' H5
      have e2 := G6.c0
      have e3 := G6.c1
      have e4 := G6.c2
      go_wp2_with (fail)
      refine (cT _ _ o6.reads hcap'.out).mono ?_
      rintro e w9 ⟨vu, m9, rfl, fu, hm, b9⟩
      obtain ⟨hml9, hmd9, _⟩ := hmr.out m9 hm
      have hsm9 := hsame.out m9 hm
      have X9 := X6.below b9 X6.lt
      have Y9 := Y6.below b9 Y6.lt
      have o9 := o6.after b9
      have B9 := B6.trans (b9.mono (by have := G6.lt; omega))
      have b59 := b56.trans (b9.mono (by omega))
      have hob : ∀ k, (Value.slice ua AA.length uc).ownBlock = some k → k < wr.heap.size := fun k hk => by have := (ob.out k hk).2; omega
      have hsz9 := b9.size
      obtain ⟨za, zc, ev⟩ := fu.o.isSlice
      rw [hml9] at ev
      subst ev
      clear e1 e2 e3 e4 G6 X6 Y6 o6 B6 b56 b9 hm cT
      obtain ⟨x, hx⟩ : ∃ x, w9.heap.size = x := ⟨_, rfl⟩
      have hA1 : 1 ≤ AA.length := by
        rw [hal.out]
        exact Nat.le_trans (by decide) (Nat.mul_le_mul hn1.1 (show 1 ≤ K.toNat by omega))
      obtain ⟨gb, gc, hbv, hgb1, hgb2⟩ := o9.form (by rw [List.length_map]; exact hA1)
      simp only [List.length_map, Value.slice.injEq, true_and] at hbv
      obtain ⟨rfl, rfl⟩ := hbv
      have hgbw := hob gb rfl
      have U0 := RBx.made w9 q (.slice za i zc) 26
      have bb : Below w9.heap.size w9 (w9.alloc (.cells #[.int .i64 q, .slice za i zc] 26)) := (Below.refl _ _).alloc (Nat.le_refl _) _
      have X10 := X9.below bb X9.lt
      have Y10 := Y9.below bb Y9.lt
      have o10 := o9.after bb
      have f10 := fu.after bb
      have b510 := b59.trans (bb.mono (by omega))
      have hszA : w9.heap.size ≤ (w9.alloc (.cells #[.int .i64 q, .slice za i zc] 26)).heap.size := bb.size
      rw [hx] at U0
      go_upto_region 17 with (fail)
      clear X9 Y9 o9 fu b59 bb B9 hob
      have hxw : wr.heap.size ≤ x := by omega
      replace hx := Lib.hid hx
      generalize w9.alloc (.cells #[.int .i64 q, .slice za i zc] 26) = w10 at *
      have hpw2 : p < wg2.heap.size := by omega
      have hI2 : Hid (Own w10 wg2.heap.size 9 (.slice (some ⟨gb, 0, none⟩) AA.length uc) (AA.map .string) ∧ Below wg2.heap.size wg2 w10) := Lib.hid ⟨o10, b510⟩
      clear o10 b510
      go_wp2_with (fail)
      go_loopw [17] (fun t wz => ∃ (j : Nat) (bs : List ByteArray), j ≤ AA.length ∧ t = .int .i64 (j : Int) ∧ bs.length = AA.length ∧ Own wz wg2.heap.size 9 (.slice (some ⟨gb, 0, none⟩) AA.length uc) (bs.map .string) ∧ Below wg2.heap.size wg2 wz ∧ (∀ k, k ≠ gb → wz.heap[k]? = w10.heap[k]?) ∧ w10.heap.size ≤ wz.heap.size) (fun t _ => AA.length - (intOf t).toNat)
      case atStart => exact ⟨0, AA, by omega, rfl, rfl, hI2.out.1, hI2.out.2, fun _ _ => rfl, Nat.le_refl _⟩
      case round =>
        obtain ⟨j, bs, hj, rfl, hbl, ow, bz, hh, hs⟩ := hrel
        rename World => wz
        clear hI2
        have hh' := Lib.hid hh
        replace hbl := Lib.hid hbl
        clear hh
        by_cases hjl : j < AA.length
        · have y2 : (j : Int) < (AA.length : Int) := by omega
          have ct := ow.cell (i := j) (by rw [List.length_map, hbl.out]; exact hjl)
          have cf := ow.frozen j
          have ow2 := ow.set j (.string ⟨#[]⟩)
          rw [← List.map_set] at ow2
          replace ow2 := Lib.hid ow2
          clear ow
          go_wp2_with (fail)
          go_roundw
          case rel => exact ⟨j + 1, bs.set j ⟨#[]⟩, by omega, by go_num, by rw [List.length_set]; exact hbl.out, ow2.out, bz.setCell (p := ⟨gb, j, none⟩) (by show wg2.heap.size ≤ gb; omega) _, fun k hk => by rw [Below.heap_setCell _ _ _ _ (by show k ≠ gb; exact hk)]; exact hh'.out k hk, by simpa using hs⟩
          case measure => simp [intOf]; omega
        · obtain rfl : j = AA.length := by omega
          have y2 : ¬ ((AA.length : Int) < (AA.length : Int)) := by omega
          have X11 := X10.heap (hh'.out _ (by omega)) hs
          have Y11 := Y10.heap (hh'.out _ (by omega)) hs
          have U11 := U0.heap (hh'.out _ (by omega)) hs
          have f11 : SFam wz wr.heap.size (.slice za i zc) m9 := f10.heap fun k h1 h2 => hh'.out k (by omega)
          have M11 := f11.reads hmd9
          have L11 := L3'.out.below bz
          have N11 := L2'.out.below bz
          have hB : Below p w wz := by
            have hB6 := B6k.out
            exact hB6.trans (bz.mono (by omega))
          have hl1 := hn.out
          clear X10 Y10 U0 f10 ow hh' hs f11 hmd9
          have e0 := X11.c0
          have e1 := X11.c1
          have e2 := Y11.c0
          have e3 := Y11.c1
          have e4 := U11.c0
          have e5 := U11.c1
          replace hl1 := Lib.hid hl1
          replace hml9 := Lib.hid hml9
          go_wp2_with (fail)
          refine (rsame11_any q q (.slice va1 i vc1) (.slice va2 l2.length vc2) l1 l2 wz L11 N11 (by rw [hl1.out]; omega)).mono ?_
          rintro e wy ⟨rfl, by1⟩
          rw [hsm]
          have X12 := X11.below by1 X11.lt
          have U12 := U11.below by1 U11.lt
          have L12 := L11.below by1
          have M12 := M11.below by1
          have B12 := hB.trans (by1.mono (by have := bz.size; omega))
          have hpy : p < wy.heap.size := by have := by1.size; have := bz.size; omega
          clear X11 Y11 U11 L11 N11 M11 hB by1 e0 e1 e2 e3 e4 e5
          have e0 := X12.c0
          have e1 := X12.c1
          have e4 := U12.c0
          have e5 := U12.c1
          go_wp2_with (fail)
          refine (rsame11_any q q (.slice za i zc) (.slice va1 i vc1) m9 l1 wy M12 L12 (by rw [hml9.out]; omega)).mono ?_
          rintro e wx ⟨rfl, bx⟩
          rw [hsm9]
          go_wp2_with (fail)
          go_ret
          exact ⟨rfl, by rw [hp.out]; exact B12.trans (bx.mono (by omega))⟩
end Go.Proofs.YtdbjfofnkijmoaaDoor
