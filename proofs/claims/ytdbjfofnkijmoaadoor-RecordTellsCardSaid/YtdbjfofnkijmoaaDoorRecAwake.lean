/- record: the first calls. -/
import Derived.Test.YtdbjfofnkijmoaaDoorRecFit
import Derived.Test.YtdbjfofnkijmoaaDoorRecBkM
import Derived.Test.YtdbjfofnkijmoaaDoorRecWalk12
namespace Go.Proofs.YtdbjfofnkijmoaaDoor
open Go.RowKit
set_option linter.unusedVariables false
set_option linter.unusedSimpArgs false

open Rc
def l11 (u v : Value) : List St := [⟨2, [blockS 1], u⟩, ⟨3, [blockS 2], v⟩]
theorem l11_right (u v : Value) : rightB 1 1 8 5 (l11 u v) = true := by
  unfold rightB ordB l11
  have h1 := blockS_size 1
  have h2 := blockS_size 2
  simp only [List.length_cons, List.length_nil, List.all_cons, List.all_nil, stB, txtB, h1, h2]
  rfl
theorem l11_bad : rightB 1 1 8 5 [] = false := by decide
theorem Own.room {w : World} {B : Nat} {E : TypeId} {v : Value} {xs : List Value} (h : Own w B E v xs) : ∀ a n c, v = .slice a n c → n ≤ c := by
  intro a n c e
  rcases h.o.2 with ⟨h1, h0⟩ | ⟨g, cap, cur, h1, h2, h3, h4, _⟩
  · rw [h1] at e; simp at e; omega
  · rw [h1] at e; simp at e; omega
theorem Reads.row (w : World) (t : ByteArray) : Reads (w.alloc (.cells #[.string t] 9)) (.slice (some ⟨w.heap.size, 0, none⟩) 1 1) ([t].map .string) := by
  refine .inr ⟨w.heap.size, 0, 1, rfl, by simp, fun i hi => ?_⟩
  obtain rfl : i = 0 := by simp at hi; omega
  rw [World.cell?_alloc_mark]; rfl
theorem l11_reads (w : World) (a b : Nat) (ha : Reads w (.slice (some ⟨a, 0, none⟩) 1 1) ([blockS 1].map .string)) (hb : Reads w (.slice (some ⟨b, 0, none⟩) 1 1) ([blockS 2].map .string)) :
    SReads (w.alloc (.cells #[.int .i64 2, .slice (some ⟨a, 0, none⟩) 1 1, .int .i64 3, .slice (some ⟨b, 0, none⟩) 1 1] 52)) (.slice (some ⟨w.heap.size, 0, none⟩) 2 2) (l11 (.slice (some ⟨a, 0, none⟩) 1 1) (.slice (some ⟨b, 0, none⟩) 1 1)) := by
  have bb : Below w.heap.size w (w.alloc (.cells #[.int .i64 2, .slice (some ⟨a, 0, none⟩) 1 1, .int .i64 3, .slice (some ⟨b, 0, none⟩) 1 1] 52)) := (Below.refl _ _).alloc (Nat.le_refl _) _
  have hz : ∀ n, ∀ t ∈ [blockS n], t.size ≤ 140737488355328 := fun n t ht => by rw [List.mem_singleton.1 ht, blockS_size]; omega
  refine ⟨_, 2, rfl, fun i hi => ⟨w.heap.size, 0, rfl, ?_⟩⟩
  have hi2 : i < 2 := hi
  rcases Nat.lt_or_ge i 1 with h | h
  · obtain rfl : i = 0 := by omega
    exact ⟨⟨by rw [World.cell?_alloc_mark]; rfl, by rw [World.cell?_alloc_mark]; rfl, by simp⟩, ⟨ha.below bb, by simp [l11], hz 1⟩⟩
  · obtain rfl : i = 1 := by omega
    exact ⟨⟨by rw [World.cell?_alloc_mark]; rfl, by rw [World.cell?_alloc_mark]; rfl, by simp⟩, ⟨hb.below bb, by simp [l11], hz 2⟩⟩
set_option maxRecDepth 100000 in
set_option maxHeartbeats 4000000 in
theorem awake11_any (w : World) : Calls Tryd.prog 9 #[] w (Tells w (.bool true)) := by
  obtain ⟨p, hp⟩ : ∃ p, w.heap.size = p := ⟨_, rfl⟩
  have G0 := GBx.made w 1 1 8 23
  have b0 : Below p w (w.alloc (.cells #[.int .i64 1, .int .i64 1, .int .i64 8] 23)) := (Below.refl _ _).alloc (by omega) _
  rw [hp] at G0
  have cB1 := fun W => block_any 1 W (by decide) (by decide)
  have cB2 := fun W => block_any 2 W (by decide) (by decide)
  generalize hS1 : blockS 1 = S1 at cB1
  generalize hS2 : blockS 2 = S2 at cB2
  replace hS1 := Lib.hid hS1
  replace hS2 := Lib.hid hS2
  go_enter Tryd.func9, Tryd.ntmps9
  go_wp2_with (fail)
  replace hp := Lib.hid hp
  generalize w.alloc (.cells #[.int .i64 1, .int .i64 1, .int .i64 8] 23) = wa at *
  refine (cB1 _).mono ?_
  rintro e w1 ⟨rfl, b1⟩
  have G1 := G0.below b1 G0.lt
  have B1 := b0.trans (b1.mono (by have := G0.lt; omega))
  obtain ⟨r1, hr1⟩ : ∃ r, w1.heap.size = r := ⟨_, rfl⟩
  have bb : Below r1 w1 (w1.alloc (.cells #[.string S1] 9)) := (Below.refl _ _).alloc (by omega) _
  have hpr1 : p < r1 := by have := G1.lt; omega
  have R1 := Reads.row w1 S1
  rw [hr1] at R1
  have G2 := G1.below bb hpr1
  have B2 := B1.trans (bb.mono (by omega))
  clear G0 b0 b1 G1 B1 bb cB1
  go_wp2_with (fail)
  replace hr1 := Lib.hid hr1
  generalize w1.alloc (.cells #[.string S1] 9) = wb at *
  refine (cB2 _).mono ?_
  rintro e w2 ⟨rfl, b2⟩
  have G3 := G2.below b2 G2.lt
  have B3 := B2.trans (b2.mono (by have := G2.lt; omega))
  have R3 := R1.below b2
  obtain ⟨r2, hr2⟩ : ∃ r, w2.heap.size = r := ⟨_, rfl⟩
  have bb : Below w2.heap.size w2 (w2.alloc (.cells #[.string S2] 9)) := (Below.refl _ _).alloc (Nat.le_refl _) _
  have Q1 := Reads.row w2 S2
  rw [hr2] at Q1
  have R4 := R3.below bb
  have G4 := G3.below bb G3.lt
  have B4 := B3.trans (bb.mono (by have := G3.lt; omega))
  have sz1 : (w2.alloc (.cells #[.string S2] 9)).heap.size = r2 + 1 := by simp [hr2]
  clear G2 B2 R1 b2 G3 B3 R3 bb cB2
  rw [← hS1.out] at R4
  rw [← hS2.out] at Q1
  rw [← hS2.out] at R4 G4 B4 sz1
  have L5 := l11_reads _ r1 r2 R4 Q1
  rw [sz1] at L5
  have bb : Below (r2 + 1) (w2.alloc (.cells #[.string (blockS 2)] 9)) ((w2.alloc (.cells #[.string (blockS 2)] 9)).alloc (.cells #[.int .i64 2, .slice (some ⟨r1, 0, none⟩) 1 1, .int .i64 3, .slice (some ⟨r2, 0, none⟩) 1 1] 52)) := (Below.refl _ _).alloc (by omega) _
  have G5 := G4.below bb (by have := G4.lt; omega)
  have B5 := B4.trans (bb.mono (by have := G4.lt; omega))
  have sz2 : ((w2.alloc (.cells #[.string (blockS 2)] 9)).alloc (.cells #[.int .i64 2, .slice (some ⟨r1, 0, none⟩) 1 1, .int .i64 3, .slice (some ⟨r2, 0, none⟩) 1 1] 52)).heap.size = r2 + 1 + 1 := by simp [hr2]
  have X6 := RBx.made ((w2.alloc (.cells #[.string (blockS 2)] 9)).alloc (.cells #[.int .i64 2, .slice (some ⟨r1, 0, none⟩) 1 1, .int .i64 3, .slice (some ⟨r2, 0, none⟩) 1 1] 52)) 5 (.slice (some ⟨r2 + 1, 0, none⟩) 2 2) 26
  rw [sz2] at X6
  rw [hS2.out] at L5 bb G5 B5 X6 sz2
  go_upto_region 3 with (fail)
  generalize hwc : (w2.alloc (.cells #[.string S2] 9)).alloc (.cells #[.int .i64 2, .slice (some ⟨r1, 0, none⟩) 1 1, .int .i64 3, .slice (some ⟨r2, 0, none⟩) 1 1] 52) = wc at *
  have bb : Below (r2 + 1 + 1) wc (wc.alloc (.cells #[.int .i64 5, .slice (some ⟨r2 + 1, 0, none⟩) 2 2] 26)) := (Below.refl _ _).alloc (by omega) _
  have G6 := G5.below bb (by have := G5.lt; omega)
  have B6 := B5.trans (bb.mono (by have := G5.lt; omega))
  have L6 := L5.below (by rw [sz2]; exact bb)
  clear R4 Q1 G4 B4 L5 G5 B5 bb sz1
  have e0 := G6.c0
  have e1 := G6.c1
  have e2 := G6.c2
  have e3 := X6.c0
  have e4 := X6.c1
  clear hwc
  go_wp2_with (fail)
  clear e0 e1 e2 e3 e4 hr2
  have hrX : r2 + 1 + 1 < (wc.alloc (.cells #[.int .i64 5, .slice (some ⟨r2 + 1, 0, none⟩) 2 2] 26)).heap.size := X6.lt
  have hpX : p < (wc.alloc (.cells #[.int .i64 5, .slice (some ⟨r2 + 1, 0, none⟩) 2 2] 26)).heap.size := G6.lt
  generalize wc.alloc (.cells #[.int .i64 5, .slice (some ⟨r2 + 1, 0, none⟩) 2 2] 26) = w6 at *
  clear sz2
  have hR := l11_right (.slice (some ⟨r1, 0, none⟩) 1 1) (.slice (some ⟨r2, 0, none⟩) 1 1)
  have hLd := laid_nil (right_ord hR)
  have hLt := laid_take hR hLd
  have hLs : (layS 5 (l11 (.slice (some ⟨r1, 0, none⟩) 1 1) (.slice (some ⟨r2, 0, none⟩) 1 1))).size = 17 := lay_size (right_ord hR)
  have hAl : (allT (l11 (.slice (some ⟨r1, 0, none⟩) 1 1) (.slice (some ⟨r2, 0, none⟩) 1 1))).length = 2 := rfl
  have hLl : (l11 (.slice (some ⟨r1, 0, none⟩) 1 1) (.slice (some ⟨r2, 0, none⟩) 1 1)).length = 2 := rfl
  have hLh := hLd.s
  have hAz : ∀ t ∈ allT (l11 (.slice (some ⟨r1, 0, none⟩) 1 1) (.slice (some ⟨r2, 0, none⟩) 1 1)), t.size = 120 := fun t ht => by
    have h1 : t ∈ [blockS 1, blockS 2] := ht
    simp only [List.mem_cons, List.not_mem_nil, or_false] at h1
    rcases h1 with rfl | rfl <;> exact blockS_size _
  generalize l11 (.slice (some ⟨r1, 0, none⟩) 1 1) (.slice (some ⟨r2, 0, none⟩) 1 1) = l at *
  have cL := fun W (h : SReads W (.slice (some ⟨r2 + 1, 0, none⟩) 2 2) l) => lay_any 1 1 8 5 (.slice (some ⟨r2 + 1, 0, none⟩) 2 2) l W h (by omega)
  unfold GivesL at cL
  rw [hR] at cL
  simp only [if_true] at cL
  have hdn : (hdS (layS 5 l)).length = 2 := by rw [hLh, List.length_map]; exact hLl
  have hsl : (layS 5 l).size ≤ 140737488355328 := by omega
  have cH := fun W => head11_any 1 1 8 (layS 5 l) W hsl
  unfold GivesH at cH
  rw [hLd.t, hLd.q, hdn] at cH
  simp only [if_true] at cH
  have cT := fun W v (h : Reads W v ((allT l).map .string)) hcap => take11_any 1 1 8 (layS 5 l) v (allT l) W hsl h (fun t ht => by rw [hAz t ht]; omega) (by omega) hcap
  unfold GivesTk at cT
  rw [hLt.1, hLt.2, hLd.q] at cT
  simp only [if_true] at cT
  have cN := fun W => lay_any 1 1 8 5 (.slice none 0 0) [] W ⟨none, 0, rfl, fun i hi => absurd hi (Nat.not_lt_zero _)⟩ (by decide)
  unfold GivesL at cN
  rw [l11_bad] at cN
  simp only [Bool.false_eq_true, if_false] at cN
  have cR := fun W (h : SReads W (.slice (some ⟨r2 + 1, 0, none⟩) 2 2) l) => right11_any 1 1 8 5 (.slice (some ⟨r2 + 1, 0, none⟩) 2 2) l W h (by omega)
  rw [hR] at cR
  have hprz : ∀ m : List St, m.map pr = l.map pr → sameB 5 m 5 l = true := fun m hm => by
    unfold sameB
    have : m.map (fun s => (s.n, s.d)) = l.map (fun s => (s.n, s.d)) := hm
    rw [decide_eq_true this]; rfl
  have hmz : ∀ m : List St, m.map pr = l.map pr → m.length = 2 := fun m hm => by have := congrArg List.length hm; simpa [hLl] using this
  have hmd : ∀ m : List St, m.map pr = l.map pr → ∀ s ∈ m, s.d.length ≤ 140737488355328 ∧ ∀ t ∈ s.d, t.size ≤ 140737488355328 := fun m hm s hs => by
    have h1 : pr s ∈ l.map pr := by rw [← hm]; exact List.mem_map.2 ⟨s, hs, rfl⟩
    obtain ⟨s', hs', e⟩ := List.mem_map.1 h1
    have e2 : s'.d = s.d := congrArg Prod.snd e
    have hf := right_f hR
    rw [← e2]
    exact ⟨by have := hf.d s' hs'; omega, fun t ht => by have := hf.z s' hs' t ht; omega⟩
  have hS17 : ((layS 5 l).size : Int) = 17 := by omega
  replace hS17 := Lib.hid hS17
  replace hprz := Lib.hid hprz
  replace hmz := Lib.hid hmz
  replace hmd := Lib.hid hmd
  replace hAl := Lib.hid hAl
  clear hR hLd hLt hLh hAz hdn hLl
  generalize layS 5 l = HH at *
  generalize allT l = AA at *
  refine (cL _ L6).mono ?_
  rintro e w7 ⟨vb, rfl, ob, b7⟩
  have G7 := G6.below b7 hpX
  have X7 := X6.below b7 hrX
  have L7 := L6.below b7
  have B7 := B6.trans (b7.mono (by omega))
  obtain ⟨va, vc, ev⟩ := ob.isSlice
  rw [List.length_map, hAl.out] at ev
  subst ev
  clear G6 X6 L6 B6 b7 cL
  have e0 := G7.c0
  have e1 := G7.c1
  have e2 := G7.c2
  go_wp2_with (fail)
  refine (cH _).mono ?_
  rintro e w8 ⟨rfl, b8⟩
  have G8 := G7.below b8 G7.lt
  have X8 := X7.below b8 X7.lt
  have L8 := L7.below b8
  have B8 := B7.trans (b8.mono (by have := G7.lt; omega))
  have ob8 := ob.after b8
  clear G7 X7 L7 B7 ob b8 e0 e1 e2 cH
  have e0 := G8.c0
  have e1 := G8.c1
  have e2 := G8.c2
  go_wp2_with (fail)
  refine (cT w8 (.slice va 2 vc) ob8.reads ob8.room).mono ?_
  rintro e w9 ⟨vt, m, rfl, ft, hm, b9⟩
  have G9 := G8.below b9 G8.lt
  have X9 := X8.below b9 X8.lt
  have L9 := L8.below b9
  have B9 := B8.trans (b9.mono (by have := G8.lt; omega))
  have hml := hmz.out m hm
  have ms := hprz.out m hm
  have M9 := ft.reads (hmd.out m hm)
  obtain ⟨ta, tc, ev⟩ := ft.o.isSlice
  rw [hml] at ev
  subst ev
  clear G8 X8 L8 B8 ob8 b9 e0 e1 e2 cT ft hm hprz hmz hmd
  obtain ⟨y, hy⟩ : ∃ y, w9.heap.size = y := ⟨_, rfl⟩
  have Y0 := RBx.made w9 5 (.slice ta 2 tc) 26
  have bb : Below w9.heap.size w9 (w9.alloc (.cells #[.int .i64 5, .slice ta 2 tc] 26)) := (Below.refl _ _).alloc (Nat.le_refl _) _
  have G10 := G9.below bb G9.lt
  have X10 := X9.below bb X9.lt
  have L10 := L9.below bb
  have M10 := M9.below bb
  have B10 := B9.trans (bb.mono (by have := G9.lt; omega))
  rw [hy] at Y0
  go_upto_region 6 with (fail)
  clear hy G9 X9 L9 M9 B9 bb
  generalize w9.alloc (.cells #[.int .i64 5, .slice ta 2 tc] 26) = w10 at *
  have e0 := G10.c0
  have e1 := G10.c1
  have e2 := G10.c2
  go_wp2_with (fail)
  refine (cN _).mono ?_
  rintro e w11 ⟨vn, rfl, on, b11⟩
  obtain ⟨na, nc, ev⟩ := on.isSlice
  subst ev
  have G11 := G10.below b11 G10.lt
  have X11 := X10.below b11 X10.lt
  have Y11 := Y0.below b11 Y0.lt
  have L11 := L10.below b11
  have M11 := M10.below b11
  have B11 := B10.trans (b11.mono (by have := G10.lt; omega))
  clear G10 X10 L10 M10 B10 b11 e0 e1 e2 cN Y0 on
  have e0 := G11.c0
  have e1 := G11.c1
  have e2 := G11.c2
  have e3 := X11.c0
  have e4 := X11.c1
  have hQ17 : ((HH.size : Int) == 17) = true := by rw [hS17.out]; rfl
  have hS17' := hS17.out
  go_wp2_with (fail)
  refine (cR _ L11).mono ?_
  rintro e w12 ⟨rfl, b12⟩
  have X12 := X11.below b12 X11.lt
  have Y12 := Y11.below b12 Y11.lt
  have L12 := L11.below b12
  have M12 := M11.below b12
  have B12 := B11.trans (b12.mono (by have := G11.lt; omega))
  have hp12 : p < w12.heap.size := (G11.below b12 G11.lt).lt
  clear G11 X11 L11 M11 B11 b12 e0 e1 e2 e3 e4 cR Y11
  have e3 := X12.c0
  have e4 := X12.c1
  have e5 := Y12.c0
  have e6 := Y12.c1
  go_wp2_with (fail)
  refine (rsame11_any 5 5 (.slice ta 2 tc) (.slice (some ⟨r2 + 1, 0, none⟩) 2 2) m l w12 M12 L12 (by omega)).mono ?_
  rintro e w13 ⟨rfl, b13⟩
  rw [ms]
  have X13 := X12.below b13 X12.lt
  have Y13 := Y12.below b13 Y12.lt
  have L13 := L12.below b13
  have M13 := M12.below b13
  have B13 := B12.trans (b13.mono (by omega))
  have hp13 : p < w13.heap.size := Nat.lt_of_lt_of_le hp12 b13.size
  clear X12 L12 M12 B12 b13 e3 e4 e5 e6 Y12
  have e3 := X13.c0
  have e4 := X13.c1
  have e5 := Y13.c0
  have e6 := Y13.c1
  go_wp2_with (fail)
  refine (same11_any 5 5 (.slice ta 2 tc) (.slice (some ⟨r2 + 1, 0, none⟩) 2 2) m l w13 M13 L13 (by omega)).mono ?_
  rintro e w14 ⟨rfl, b14⟩
  rw [ms]
  go_wp2_with (fail)
  go_ret
  exact ⟨rfl, by rw [hp.out]; exact B13.trans (b14.mono (by omega))⟩
end Go.Proofs.YtdbjfofnkijmoaaDoor
