/- label: LabelCounts, walked. -/
import Derived.Test.YtaopknddpagjeaaDoorLabFamM
import Derived.Test.YtaopknddpagjeaaDoorLabAwake
import Derived.BigQuiet
import Derived.Deep.QuietTactic
namespace Go.Proofs.YtaopknddpagjeaaDoor
open Go.RowKit
set_option linter.unusedVariables false
set_option linter.unusedSimpArgs false
open Lb

theorem KP.new {p : Nat} {w W : World} (h : KP p w W) {b : Nat} (hb : w.heap.size ≤ b) (o : Nat) (u : Value) : KP p w (W.setCell ⟨b, o, none⟩ u) :=
  ⟨by simpa using h.1, fun k hk hne => (Below.heap_setCell _ _ _ _ (by show k ≠ b; omega)).trans (h.2 k hk hne)⟩
theorem KP.more {p : Nat} {w W W' : World} (h : KP p w W) (hb : Below W.heap.size W W') : KP p w W' :=
  ⟨Nat.le_trans h.1 hb.size, fun k hk hne => (hb.block k (Nat.lt_of_lt_of_le hk h.1)).trans (h.2 k hk hne)⟩
theorem KP.setF {p : Nat} {w W : World} (h : KP p w W) (o : Nat) (y : Lbl) (va vb vc : Value) : KP p w (Go.Proofs.YtaopknddpagjeaaDoor.setF W p o y va vb vc) :=
  ⟨by rw [setF_size]; exact h.1, fun k hk hne => (setF_heap _ _ _ _ _ _ _ _ hne).trans (h.2 k hk hne)⟩
theorem pk_nat {c n : Int} (h : 1 ≤ n) : ∃ m : Nat, pk c n = (m : Int) ∧ (m : Int) < n := by
  have := pk_rng c n h
  exact ⟨(pk c n).toNat, by omega, by omega⟩
set_option maxRecDepth 100000 in
set_option maxHeartbeats 4000000 in
theorem lcounts_walk (r : Lbl) (vs vb vc : Value) (gens : List Int) (v : Value) (fors : List Int) (vf : Value) (j : Lbl) (ja jb jc : Value) (w : World) (hx : LR w r vs vb vc) (hn : NumsOk r) (hl : Reads w v (gens.map (.int .i64))) (hl1 : ∀ n ∈ gens, -9223372036854775808 ≤ n ∧ n ≤ 9223372036854775807) (hl2 : gens.length ≤ 140737488355328)
    (hf : Reads w vf (fors.map (.int .i64))) (hf1 : ∀ n ∈ fors, -9223372036854775808 ≤ n ∧ n ≤ 9223372036854775807) (hf2 : fors.length ≤ 140737488355328) (hj : LR w j ja jb jc) :
    Calls Tryd.prog 6 #[r.v vs vb vc, v, vf, j.v ja jb jc] w (Tells w (.bool true)) := by
  obtain ⟨j1, k1, ev⟩ := hj.s.isSlice
  rw [List.length_map] at ev
  subst ev
  obtain ⟨j2, k2, ev⟩ := hj.b.isSlice
  rw [List.length_map] at ev
  subst ev
  obtain ⟨j3, k3, ev⟩ := hj.c.isSlice
  rw [List.length_map] at ev
  subst ev
  have A0 : LblBox ((w.alloc (.cells #[.int .i64 r.i, .int .i64 r.s, .int .i64 r.g, .int .i64 r.k, .int .i64 r.m, .int .i64 r.b, vs, vb, vc] 36)).alloc (.cells #[.int .i64 j.i, .int .i64 j.s, .int .i64 j.g, .int .i64 j.k, .int .i64 j.m, .int .i64 j.b, .slice j1 j.st.length k1, .slice j2 j.bo.length k2, .slice j3 j.cu.length k3] 26)) w.heap.size r vs vb vc := by
    have h : LblBox (w.alloc (.cells #[.int .i64 r.i, .int .i64 r.s, .int .i64 r.g, .int .i64 r.k, .int .i64 r.m, .int .i64 r.b, vs, vb, vc] 36)) w.heap.size r vs vb vc := ⟨LblAt.made w r vs vb vc 36, fun o => frozen_of_row _ _ _ _ _ (heap_alloc_new _ _)⟩
    exact h.below ((Below.refl _ _).alloc (Nat.le_refl _) _) h.a.lt
  have J0 : LblBox ((w.alloc (.cells #[.int .i64 r.i, .int .i64 r.s, .int .i64 r.g, .int .i64 r.k, .int .i64 r.m, .int .i64 r.b, vs, vb, vc] 36)).alloc (.cells #[.int .i64 j.i, .int .i64 j.s, .int .i64 j.g, .int .i64 j.k, .int .i64 j.m, .int .i64 j.b, .slice j1 j.st.length k1, .slice j2 j.bo.length k2, .slice j3 j.cu.length k3] 26)) (w.heap.size + 1) j (.slice j1 j.st.length k1) (.slice j2 j.bo.length k2) (.slice j3 j.cu.length k3) := by
    have h := LblAt.made (w.alloc (.cells #[.int .i64 r.i, .int .i64 r.s, .int .i64 r.g, .int .i64 r.k, .int .i64 r.m, .int .i64 r.b, vs, vb, vc] 36)) j (.slice j1 j.st.length k1) (.slice j2 j.bo.length k2) (.slice j3 j.cu.length k3) 26
    have f := fun o => frozen_of_row _ _ o _ _ (heap_alloc_new (w.alloc (.cells #[.int .i64 r.i, .int .i64 r.s, .int .i64 r.g, .int .i64 r.k, .int .i64 r.m, .int .i64 r.b, vs, vb, vc] 36)) (.cells #[.int .i64 j.i, .int .i64 j.s, .int .i64 j.g, .int .i64 j.k, .int .i64 j.m, .int .i64 j.b, .slice j1 j.st.length k1, .slice j2 j.bo.length k2, .slice j3 j.cu.length k3] 26))
    have e : (w.alloc (.cells #[.int .i64 r.i, .int .i64 r.s, .int .i64 r.g, .int .i64 r.k, .int .i64 r.m, .int .i64 r.b, vs, vb, vc] 36)).heap.size = w.heap.size + 1 := by simp
    rw [e] at h
    exact ⟨h, fun o => by have := f o; rwa [e] at this⟩
  have B0 : Below w.heap.size w ((w.alloc (.cells #[.int .i64 r.i, .int .i64 r.s, .int .i64 r.g, .int .i64 r.k, .int .i64 r.m, .int .i64 r.b, vs, vb, vc] 36)).alloc (.cells #[.int .i64 j.i, .int .i64 j.s, .int .i64 j.g, .int .i64 j.k, .int .i64 j.m, .int .i64 j.b, .slice j1 j.st.length k1, .slice j2 j.bo.length k2, .slice j3 j.cu.length k3] 26)) := ((Below.refl _ _).alloc (Nat.le_refl _) _).alloc (by simp) _
  unfold Lbl.v
  go_enter Tryd.func6, Tryd.ntmps6
  go_upto_region 1 with (fail)
  generalize (w.alloc (.cells #[.int .i64 r.i, .int .i64 r.s, .int .i64 r.g, .int .i64 r.k, .int .i64 r.m, .int .i64 r.b, vs, vb, vc] 36)).alloc (.cells #[.int .i64 j.i, .int .i64 j.s, .int .i64 j.g, .int .i64 j.k, .int .i64 j.m, .int .i64 j.b, .slice j1 j.st.length k1, .slice j2 j.bo.length k2, .slice j3 j.cu.length k3] 26) = w0 at *
  obtain ⟨p, hp⟩ : ∃ p, w.heap.size = p := ⟨_, rfl⟩
  rw [hp] at A0 J0 ⊢
  go_wp2_with (fail)
  refine (awake10_any w0).mono ?_
  rintro e w1 ⟨rfl, b1⟩
  have A1 := A0.below b1 A0.a.lt
  have J1 := J0.below b1 J0.a.lt
  have B1 := B0.trans (b1.mono B0.size)
  have pj : p + 1 < w1.heap.size := J1.a.lt
  clear A0 B0 J0 b1
  have cF2 := family_any r vs vb vc gens v w1 (hx.below B1) hn (hl.below B1) hl1 hl2
  have hfo := fit_ok r
  have ⟨e0, e1, e2, e3, e4, e5, e6, e7, e8, elt⟩ := A1.a
  unfold Lbl.v at cF2
  go_wp2_with (fail)
  refine cF2.mono ?_
  rintro e w3 hg
  obtain ⟨v3, l, rfl, hF, hM, b3⟩ := hg.fam hfo
  clear hg cF2 e0 e1 e2 e3 e4 e5 e6 e7 e8 A1 hx hn hl hl1 hl2 elt
  generalize fitL r = x at *
  have B3 : Below w.heap.size w w3 := B1.trans (b3.mono B1.size)
  have J3 := J1.below b3 pj
  obtain ⟨n, hN⟩ : ∃ n, x.st.length = n := ⟨_, rfl⟩
  rw [hN] at hF
  have hll := hF.len
  have hnS := Lib.hid hF.nat
  have hnat : 2 ≤ n ∧ n ≤ 7 := ⟨hF.nat.2.1, hF.nat.2.2.1⟩
  have hxr := Lib.hid ((right_iff x).1 hfo)
  obtain ⟨g, cap, rfl, hg1, hg2⟩ := hM.o.form (by omega)
  rw [hll] at hM ⊢
  have hlens := hF.lens
  have hKr := KP.refl g w3
  have hX3 := hM.box (hM.stay hlens hKr)
  have hS3 : ∀ f ∈ l, ∀ W, KP g w3 W → LR W f.x f.va f.vb f.vc := fun f hf W hk => hM.stay hlens hk f hf
  have hJ : Hid (∀ W, KP g w3 W → LR W j (.slice j1 j.st.length k1) (.slice j2 j.bo.length k2) (.slice j3 j.cu.length k3)) := Lib.hid fun W hk => hj.old B3 (by omega) hk
  have hJb : Hid (∀ W, KP g w3 W → LblBox W (p + 1) j (.slice j1 j.st.length k1) (.slice j2 j.bo.length k2) (.slice j3 j.cu.length k3)) := Lib.hid fun W hk => J3.heap (hk.2 (p + 1) J3.a.lt (by omega)) hk.1
  obtain ⟨fa, fc, rfl, hfn⟩ := hf.nums
  have hFo : Hid (∀ W, KP g w3 W → ∀ i, i < fors.length → ∃ cb co, fa = some ⟨cb, co, none⟩ ∧ cb < W.heap.size ∧ W.cell? ⟨cb, co + i, none⟩ = some (.int .i64 (fors.getD i 0)) ∧ -9223372036854775808 ≤ fors.getD i 0 ∧ fors.getD i 0 ≤ 9223372036854775807) := Lib.hid fun W hk i hi => by
    obtain ⟨cb, co, e1, e2, e3⟩ := hfn i hi
    have hs := B3.size
    have hw := hk.1
    refine ⟨cb, co, e1, by omega, ?_, ?_⟩
    · rw [cell_of_heap (hk.2 cb (by omega) (by omega)), cell_of_heap (B3.block cb e2)]; exact e3
    · rw [List.getD_eq_getElem?_getD, List.getElem?_eq_getElem hi]; exact hf1 _ (List.getElem_mem hi)
  clear hfn hf hf1 hj hM J1 B1 b3 J3 hlens
  have hSp := Spoilt.none hF
  have hgw : w.heap.size ≤ g := by omega
  replace hp := Lib.hid hp
  clear pj
  obtain ⟨ib, hi, hz0, hz1, hzb⟩ := info_parts Tryd.infoBo
  obtain ⟨w4, hmk, ou, b4⟩ := Own.make_run (P := Tryd.prog) (T := 43) Tryd.underlying43 hi hz0 hz1 hzb rfl w3 n (by omega) (by omega)
  have hX4 := hX3.below b4
  have hK4 := hKr.more b4
  have B4 := B3.trans (b4.mono B3.size)
  obtain ⟨G, hG⟩ : ∃ G, w3.heap.size = G := ⟨_, rfl⟩
  rw [hG] at hmk ou
  have hGg : G ≠ g := by omega
  have hGw : w.heap.size ≤ G := by omega
  have ou' : Own w4 G 4 (.slice (some ⟨G, 0, none⟩) n n) ((List.replicate n false).map .bool) := by rw [List.map_replicate]; exact ou
  clear ou hX3 hKr b4 B3
  go_wp2_with (fail)
  clear hmk
  go_loopw [14] (fun i W => ∃ (k : Nat) (l' : List Fd) (gone : List Bool), k ≤ n ∧ i = .int .i64 (k : Int) ∧ Spoilt x gens n l l' gone ∧ FBox W g l' ∧ Own W G 4 (.slice (some ⟨G, 0, none⟩) n n) (gone.map .bool) ∧ KP g w3 W ∧ Below w.heap.size w W ∧ ∀ f ∈ l', ∀ W', KP g w3 W' → LR W' f.x f.va f.vb f.vc) (fun i _ => n - (intOf i).toNat)
  case atStart => exact ⟨0, l, _, Nat.zero_le _, rfl, hSp, hX4, ou', hK4, B4, hS3⟩
  case round =>
    obtain ⟨k, l', gone, hk, rfl, hSp', hX, hO, hK, hB, hS⟩ := hrel
    rename World => W
    clear hSp hX4 ou' hK4 B4 hS3
    have hl' := hSp'.len
    have hgl := hSp'.gl
    by_cases h1 : k < fors.length ∧ k < n
    · have y1 : (k : Int) < (fors.length : Int) := by omega
      have y2 : (k : Int) < (n : Int) := by omega
      obtain ⟨cb, co, rfl, hcb, hcc, hr1, hr2⟩ := hFo.out W hK k h1.1
      obtain ⟨c, hc⟩ : ∃ c, fors.getD k 0 = c := ⟨_, rfl⟩
      rw [hc] at hcc hr1 hr2
      obtain ⟨m, hm, hmn⟩ := pk_nat (c := c) (n := (n : Int)) (by omega)
      have cP := pick10_any c (n : Int) W hr1 hr2 (by omega) (by omega)
      rw [hm] at cP
      go_wp2_with (fail)
      refine cP.mono ?_
      rintro e w' ⟨rfl, rfl⟩
      have hmn' : m < n := by omega
      have ym : (m : Int) < (n : Int) := hmn
      have hgc : W.cell? ⟨G, m, none⟩ = some (.bool (gone.getD m true)) := by
        rw [hO.cell (i := m) (by simp; omega)]
        simp [List.getD_eq_getElem?_getD, show m < gone.length by omega]
      cases hgm : gone.getD m true with
      | true =>
        rw [hgm] at hgc
        clear hr1 hr2 hcc hcb
        go_wp2_with (fail)
        go_roundw
        case rel => exact ⟨k + 1, l', gone, by omega, by go_num, hSp', hX, hO, hK, hB, hS⟩
        case measure => simp [intOf]; omega
      | false =>
        rw [hgm] at hgc
        have hfz : W.frozen? ⟨G, m, none⟩ = false := hO.frozen m
        go_upto_region 11 with (fail)
        have O1 : Own (W.setCell ⟨G, m, none⟩ (.bool true)) G 4 (.slice (some ⟨G, 0, none⟩) n n) ((gone.set m true).map .bool) := by rw [List.map_set]; exact hO.set m (.bool true)
        have X1 := hX.far (o := m) hGg (.bool true)
        have K1 := hK.new (b := G) (by omega) m (.bool true)
        have B1 := hB.setCell (p := ⟨G, m, none⟩) hGw (.bool true)
        clear hfz hgc hO hX hK hB hcc hcb
        generalize W.setCell ⟨G, m, none⟩ (.bool true) = W1 at *
        have hml : m < l'.length := by omega
        have F1 := X1.at_ m hml
        have hYs := hS l'[m] (List.getElem_mem hml)
        obtain ⟨F, hF1⟩ : ∃ F, l'[m] = F := ⟨_, rfl⟩
        rw [hF1] at F1 hYs
        obtain ⟨fh, y, ya, yb, yc⟩ := F
        have ⟨f0, f1, f2, f3, f4, f5, f6, f7, f8, f9, flt⟩ := F1
        simp only at f0 f1 f2 f3 f4 f5 f6 f7 f8 f9 hYs
        obtain ⟨a1, d1, ev⟩ := (hYs _ K1).s.isSlice
        subst ev
        obtain ⟨a2, d2, ev⟩ := (hYs _ K1).b.isSlice
        subst ev
        obtain ⟨a3, d3, ev⟩ := (hYs _ K1).c.isSlice
        subst ev
        simp only [List.length_map] at *
        have bk : Below W1.heap.size W1 (W1.alloc (.cells #[.int .i64 y.i, .int .i64 y.s, .int .i64 y.g, .int .i64 y.k, .int .i64 y.m, .int .i64 y.b, .slice a1 y.st.length d1, .slice a2 y.bo.length d2, .slice a3 y.cu.length d3] 26)) := (Below.refl _ _).alloc (Nat.le_refl _) _
        have Y2 : LblBox (W1.alloc (.cells #[.int .i64 y.i, .int .i64 y.s, .int .i64 y.g, .int .i64 y.k, .int .i64 y.m, .int .i64 y.b, .slice a1 y.st.length d1, .slice a2 y.bo.length d2, .slice a3 y.cu.length d3] 26)) W1.heap.size y (.slice a1 y.st.length d1) (.slice a2 y.bo.length d2) (.slice a3 y.cu.length d3) := ⟨LblAt.made W1 y (.slice a1 y.st.length d1) (.slice a2 y.bo.length d2) (.slice a3 y.cu.length d3) 26, fun o => frozen_of_row _ _ _ _ _ (heap_alloc_new _ _)⟩
        have X2 := X1.below bk
        have O2 := O1.after bk
        have K2 := K1.more bk
        have B2 := B1.trans (bk.mono B1.size)
        have hgq : g < W1.heap.size := X1.lt
        have hGq : G < W1.heap.size := O1.lt.2
        have pj2 := hJb.out _ K2
        go_upto_region 12 with (fail)
        clear f0 f1 f2 f3 f4 f5 f6 f7 f8 f9 F1 X1 O1 K1 B1 bk
        generalize W1.alloc (.cells #[.int .i64 y.i, .int .i64 y.s, .int .i64 y.g, .int .i64 y.k, .int .i64 y.m, .int .i64 y.b, .slice a1 y.st.length d1, .slice a2 y.bo.length d2, .slice a3 y.cu.length d3] 26) = W2 at *
        obtain ⟨q, hq⟩ : ∃ q, W1.heap.size = q := ⟨_, rfl⟩
        rw [hq] at Y2 hgq hGq ⊢
        clear hq
        obtain ⟨cb', co', ce, hcb, hcc, _, _⟩ := hFo.out W2 K2 k h1.1
        obtain ⟨rfl, rfl⟩ : cb = cb' ∧ co = co' := by simpa using ce
        clear ce
        rw [hc] at hcc
        have v5 : IntKind.i64.wrap (5 * (n : Int)) = 5 * (n : Int) := IntWalk.i64_in _ (by omega)
        have cQ := pick10_any c (5 * (n : Int)) W2 hr1 hr2 (by omega) (by omega)
        go_wp2_with (fail)
        refine cQ.mono ?_
        rintro e w' ⟨rfl, rfl⟩
        have hs := pk_rng c (5 * (n : Int)) (by omega)
        generalize pk c (5 * (n : Int)) = s at *
        have hn0 : ¬ ((n : Int) = 0) := by omega
        have hd1 : s.tdiv (n : Int) = s / (n : Int) := Int.tdiv_eq_ediv_of_nonneg hs.1
        have hd2 : 0 ≤ s / (n : Int) := Int.ediv_nonneg hs.1 (by omega)
        have hd3 : s / (n : Int) < 5 := Int.ediv_lt_of_lt_mul (by omega) hs.2
        rw [← hd1] at hd2 hd3
        clear hd1
        have vd : IntKind.i64.wrap (s.tdiv (n : Int)) = s.tdiv (n : Int) := IntWalk.i64_in _ (by omega)
        go_upto_region 15 with (fail)
        generalize s.tdiv (n : Int) = d at *
        clear vd v5 cQ hcb hcc hc hs hn0 y1 y2
        have hyx : Hid (y = famX x gens m) := Lib.hid (by
          have h1 := hSp'.keep m hml (by rw [hll]; exact hmn') hgm
          rw [hF1] at h1
          rw [← hF.at_ (by rw [hll]; exact hmn'), ← h1])
        have X2' : FBox W2 g (l'.set m ⟨fh, y, .slice a1 y.st.length d1, .slice a2 y.bo.length d2, .slice a3 y.cu.length d3⟩) := by rw [← hF1, List.set_getElem_self]; exact X2
        have fin : Hid (∀ (h : Bool) (y' : Lbl) (ua ub uc : Value) (W3 : World), okF x.i n m ⟨h, y', ua, ub, uc⟩ = false → FBox W3 g (l'.set m ⟨h, y, .slice a1 y.st.length d1, .slice a2 y.bo.length d2, .slice a3 y.cu.length d3⟩) → Own W3 G 4 (.slice (some ⟨G, 0, none⟩) n n) ((gone.set m true).map .bool) → KP g w3 W3 → Below w.heap.size w W3 → (∀ W', KP g w3 W' → LR W' y' ua ub uc) →
            ∃ l'' gone'', Spoilt x gens n l l'' gone'' ∧ FBox (setF W3 g (m * 10 + 1) y' ua ub uc) g l'' ∧ Own (setF W3 g (m * 10 + 1) y' ua ub uc) G 4 (.slice (some ⟨G, 0, none⟩) n n) (gone''.map .bool) ∧ KP g w3 (setF W3 g (m * 10 + 1) y' ua ub uc) ∧ Below w.heap.size w (setF W3 g (m * 10 + 1) y' ua ub uc) ∧ ∀ f ∈ l'', ∀ W', KP g w3 W' → LR W' f.x f.va f.vb f.vc) :=
          Lib.hid fun h y' ua ub uc W3 hok hX hO hK hB hL => by
            refine ⟨l'.set m ⟨h, y', ua, ub, uc⟩, gone.set m true, hSp'.step hmn' hok, ?_, hO.sameBlock (setF_heap _ _ _ _ _ _ _ _ hGg), hK.setF _ _ _ _ _, setF_below hB hgw _ _ _ _ _, fun f hf => ?_⟩
            · have := hX.setLbl (k := m) (by simpa using hml) y' ua ub uc
              rw [List.set_set, List.getElem_set_self] at this
              exact this
            · rcases List.mem_or_eq_of_mem_set hf with h1 | rfl
              · exact hS f h1
              · exact hL
        have hYl := Lib.hid hYs
        clear hS hSp' hYs
        have hqg : q ≠ g := by omega
        have hqG : q ≠ G → True := fun _ => trivial
        have hqw : w.heap.size ≤ q := by omega
        by_cases dz0 : d = 0
        · subst dz0
          have F2 := X2'.at_ m (by simpa using hml)
          rw [List.getElem_set_self] at F2
          have c0 := F2.h
          have z0 := X2'.f (m * 10)
          have X3 := X2'.setHas (k := m) (by simpa using hml) false
          rw [List.set_set, List.getElem_set_self] at X3
          have O3 := O2.setOther (a := ⟨g, m * 10, none⟩) (by simp [Value.ownBlock]; omega) (.bool false)
          have K3 := K2.set (m * 10) (.bool false)
          have B3 := B2.setCell (p := ⟨g, m * 10, none⟩) hgw (.bool false)
          have Y3 := Y2.far (i := m * 10) (u := .bool false) hqg
          go_upto_region 23 with (fail)
          clear c0 z0 F2 X2 X2' O2 K2 B2 Y2
          generalize W2.setCell ⟨g, m * 10, none⟩ (.bool false) = W3 at *
          have fin' := fin.out false y (.slice a1 y.st.length d1) (.slice a2 y.bo.length d2) (.slice a3 y.cu.length d3) W3 rfl X3 O3 K3 B3 hYl.out
          unfold Go.Proofs.YtaopknddpagjeaaDoor.setF at fin'
          have F3 := X3.at_ m (by simpa using hml)
          rw [List.getElem_set_self] at F3
          have ⟨f0, f1, f2, f3, f4, f5, f6, f7, f8, f9, flt⟩ := F3
          simp only at f0 f1 f2 f3 f4 f5 f6 f7 f8 f9
          have z1 := X3.f (m * 10 + 1)
          have z2 := X3.f (m * 10 + 2)
          have z3 := X3.f (m * 10 + 3)
          have z4 := X3.f (m * 10 + 4)
          have z5 := X3.f (m * 10 + 5)
          have z6 := X3.f (m * 10 + 6)
          have z7 := X3.f (m * 10 + 7)
          have z8 := X3.f (m * 10 + 8)
          have z9 := X3.f (m * 10 + 9)
          have ⟨e0, e1, e2, e3, e4, e5, e6, e7, e8, elt⟩ := Y3.a
          clear fin X3 O3 K3 B3 F3
          go_wp2_with (fail)
          go_roundw
          case rel =>
            obtain ⟨l'', gone'', r1, r2, r3, r4, r5, r6⟩ := fin'
            refine ⟨k + 1, l'', gone'', by omega, by go_num, r1, ?_, ?_, ?_, ?_, r6⟩
            · with_reducible exact r2
            · with_reducible exact r3
            · with_reducible exact r4
            · with_reducible exact r5
          case measure => simp [intOf]; omega
        · by_cases dz1 : d = 1
          · subst dz1
            have c0 := Y2.a.c0
            have z0 := Y2.f 0
            have hyi : y.i = x.i := by rw [hyx.out]; rfl
            have hxi := hxr.out.i
            have te : y.i.tmod 65535 = y.i % 65535 := Int.tmod_eq_emod_of_nonneg (by omega)
            have u1 : IntKind.i64.wrap (y.i.tmod 65535) = y.i.tmod 65535 := IntWalk.i64_in _ (by omega)
            have u2 : IntKind.i64.wrap (1 + y.i.tmod 65535) = 1 + y.i.tmod 65535 := IntWalk.i64_in _ (by omega)
            have hne : 1 + y.i.tmod 65535 ≠ x.i := by omega
            clear te hyi hxi
            have fin0 := fun W3 => fin.out fh { y with i := 1 + y.i.tmod 65535 } (.slice a1 y.st.length d1) (.slice a2 y.bo.length d2) (.slice a3 y.cu.length d3) W3 (by simp [okF, hne])
            replace hyx := hyx
            have Y3 := Y2.num0 (1 + y.i.tmod 65535)
            have X3 := X2'.far (b := q) (o := 0) hqg (.int .i64 (1 + y.i.tmod 65535))
            have O3 := O2.setOther (a := ⟨q, 0, none⟩) (by simp [Value.ownBlock]; omega) (.int .i64 (1 + y.i.tmod 65535))
            have K3 := K2.new (b := q) (by omega) 0 (.int .i64 (1 + y.i.tmod 65535))
            have B3 := B2.setCell (p := ⟨q, 0, none⟩) hqw (.int .i64 (1 + y.i.tmod 65535))
            go_upto_region 23 with (fail)
            clear c0 z0 X2 X2' O2 K2 B2 Y2 u1 u2 hne
            generalize 1 + y.i.tmod 65535 = e1 at *
            generalize W2.setCell ⟨q, 0, none⟩ (.int .i64 e1) = W3 at *
            have fin' := fin0 W3 X3 O3 K3 B3 (fun W' hk => by have := hYl.out W' hk; exact ⟨this.s, this.b, this.c, this.ls, this.lb, this.lc⟩)
            clear fin0
            unfold Go.Proofs.YtaopknddpagjeaaDoor.setF at fin'
            have F3 := X3.at_ m (by simpa using hml)
            rw [List.getElem_set_self] at F3
            have ⟨f0, f1, f2, f3, f4, f5, f6, f7, f8, f9, flt⟩ := F3
            simp only at f0 f1 f2 f3 f4 f5 f6 f7 f8 f9
            have z1 := X3.f (m * 10 + 1)
            have z2 := X3.f (m * 10 + 2)
            have z3 := X3.f (m * 10 + 3)
            have z4 := X3.f (m * 10 + 4)
            have z5 := X3.f (m * 10 + 5)
            have z6 := X3.f (m * 10 + 6)
            have z7 := X3.f (m * 10 + 7)
            have z8 := X3.f (m * 10 + 8)
            have z9 := X3.f (m * 10 + 9)
            have ⟨e0, e1, e2, e3, e4, e5, e6, e7, e8, elt⟩ := Y3.a
            clear fin X3 O3 K3 B3 F3
            go_wp2_with (fail)
            go_roundw
            case rel =>
              obtain ⟨l'', gone'', r1, r2, r3, r4, r5, r6⟩ := fin'
              refine ⟨k + 1, l'', gone'', by omega, by go_num, r1, ?_, ?_, ?_, ?_, r6⟩
              · with_reducible exact r2
              · with_reducible exact r3
              · with_reducible exact r4
              · with_reducible exact r5
            case measure => simp [intOf]; omega
          · by_cases dz2 : d = 2
            · subst dz2
              have c0 := Y2.a.c1
              have z0 := Y2.f 1
              have hyi : y.s = (m : Int) := by rw [hyx.out]; rfl
              have te : (y.s + 1).tmod (n : Int) = (y.s + 1) % (n : Int) := Int.tmod_eq_emod_of_nonneg (by omega)
              have hl1 : 0 ≤ (y.s + 1) % (n : Int) := Int.emod_nonneg _ (by omega)
              have hl2 : (y.s + 1) % (n : Int) < (n : Int) := Int.emod_lt_of_pos _ (by omega)
              have u1 : IntKind.i64.wrap ((y.s + 1).tmod (n : Int)) = (y.s + 1).tmod (n : Int) := IntWalk.i64_in _ (by omega)
              have u2 : IntKind.i64.wrap (y.s + 1) = y.s + 1 := IntWalk.i64_in _ (by omega)
              have hn0 : ¬ ((n : Int) = 0) := by omega
              have hne : (y.s + 1).tmod (n : Int) ≠ (m : Int) := by
                rw [te]
                rcases Nat.lt_or_ge (m + 1) n with h | h
                · rw [Int.emod_eq_of_lt (by omega) (by omega)]; omega
                · rw [show y.s + 1 = (n : Int) by omega, Int.emod_self]; omega
              clear te hyi hl1 hl2
              have fin0 := fun W3 => fin.out fh { y with s := (y.s + 1).tmod (n : Int) } (.slice a1 y.st.length d1) (.slice a2 y.bo.length d2) (.slice a3 y.cu.length d3) W3 (by simp [okF, hne])
              have Y3 := Y2.num1 ((y.s + 1).tmod (n : Int))
              have X3 := X2'.far (b := q) (o := 1) hqg (.int .i64 ((y.s + 1).tmod (n : Int)))
              have O3 := O2.setOther (a := ⟨q, 1, none⟩) (by simp [Value.ownBlock]; omega) (.int .i64 ((y.s + 1).tmod (n : Int)))
              have K3 := K2.new (b := q) (by omega) 1 (.int .i64 ((y.s + 1).tmod (n : Int)))
              have B3 := B2.setCell (p := ⟨q, 1, none⟩) hqw (.int .i64 ((y.s + 1).tmod (n : Int)))
              go_upto_region 23 with (fail)
              clear c0 z0 X2 X2' O2 K2 B2 Y2 u1 u2 hne hn0
              generalize (y.s + 1).tmod (n : Int) = e1 at *
              generalize W2.setCell ⟨q, 1, none⟩ (.int .i64 e1) = W3 at *
              have fin' := fin0 W3 X3 O3 K3 B3 (fun W' hk => by have := hYl.out W' hk; exact ⟨this.s, this.b, this.c, this.ls, this.lb, this.lc⟩)
              clear fin0
              unfold Go.Proofs.YtaopknddpagjeaaDoor.setF at fin'
              have F3 := X3.at_ m (by simpa using hml)
              rw [List.getElem_set_self] at F3
              have ⟨f0, f1, f2, f3, f4, f5, f6, f7, f8, f9, flt⟩ := F3
              simp only at f0 f1 f2 f3 f4 f5 f6 f7 f8 f9
              have z1 := X3.f (m * 10 + 1)
              have z2 := X3.f (m * 10 + 2)
              have z3 := X3.f (m * 10 + 3)
              have z4 := X3.f (m * 10 + 4)
              have z5 := X3.f (m * 10 + 5)
              have z6 := X3.f (m * 10 + 6)
              have z7 := X3.f (m * 10 + 7)
              have z8 := X3.f (m * 10 + 8)
              have z9 := X3.f (m * 10 + 9)
              have ⟨e0, e1, e2, e3, e4, e5, e6, e7, e8, elt⟩ := Y3.a
              clear fin X3 O3 K3 B3 F3
              go_wp2_with (fail)
              go_roundw
              case rel =>
                obtain ⟨l'', gone'', r1, r2, r3, r4, r5, r6⟩ := fin'
                refine ⟨k + 1, l'', gone'', by omega, by go_num, r1, ?_, ?_, ?_, ?_, r6⟩
                · with_reducible exact r2
                · with_reducible exact r3
                · with_reducible exact r4
                · with_reducible exact r5
              case measure => simp [intOf]; omega
            · by_cases dz3 : d = 3
              · subst dz3
                have z0 := Y2.f 2
                have c0 := Y2.a.c2
                have hnr : rightB { y with g := 0 } = false := by
                  cases hr : rightB { y with g := 0 } with
                  | false => rfl
                  | true => have h : (1 : Int) ≤ 0 := ((right_iff _).1 hr).g.1; omega
                have fin0 := fun W3 => fin.out fh { y with g := 0 } (.slice a1 y.st.length d1) (.slice a2 y.bo.length d2) (.slice a3 y.cu.length d3) W3 (by simp [okF, hnr])
                have Y3 := Y2.num2 0
                have X3 := X2'.far (b := q) (o := 2) hqg (.int .i64 0)
                have O3 := O2.setOther (a := ⟨q, 2, none⟩) (by simp [Value.ownBlock]; omega) (.int .i64 0)
                have K3 := K2.new (b := q) (by omega) 2 (.int .i64 0)
                have B3 := B2.setCell (p := ⟨q, 2, none⟩) hqw (.int .i64 0)
                go_upto_region 23 with (fail)
                clear c0 z0 X2 X2' O2 K2 B2 Y2 hnr
                generalize W2.setCell ⟨q, 2, none⟩ (.int .i64 0) = W3 at *
                have fin' := fin0 W3 X3 O3 K3 B3 (fun W' hk => by have := hYl.out W' hk; exact ⟨this.s, this.b, this.c, this.ls, this.lb, this.lc⟩)
                clear fin0
                unfold Go.Proofs.YtaopknddpagjeaaDoor.setF at fin'
                have F3 := X3.at_ m (by simpa using hml)
                rw [List.getElem_set_self] at F3
                have ⟨f0, f1, f2, f3, f4, f5, f6, f7, f8, f9, flt⟩ := F3
                simp only at f0 f1 f2 f3 f4 f5 f6 f7 f8 f9
                have z1 := X3.f (m * 10 + 1)
                have z2 := X3.f (m * 10 + 2)
                have z3 := X3.f (m * 10 + 3)
                have z4 := X3.f (m * 10 + 4)
                have z5 := X3.f (m * 10 + 5)
                have z6 := X3.f (m * 10 + 6)
                have z7 := X3.f (m * 10 + 7)
                have z8 := X3.f (m * 10 + 8)
                have z9 := X3.f (m * 10 + 9)
                have ⟨e0, e1, e2, e3, e4, e5, e6, e7, e8, elt⟩ := Y3.a
                clear fin X3 O3 K3 B3 F3
                go_wp2_with (fail)
                go_roundw
                case rel =>
                  obtain ⟨l'', gone'', r1, r2, r3, r4, r5, r6⟩ := fin'
                  refine ⟨k + 1, l'', gone'', by omega, by go_num, r1, ?_, ?_, ?_, ?_, r6⟩
                  · with_reducible exact r2
                  · with_reducible exact r3
                  · with_reducible exact r4
                  · with_reducible exact r5
                case measure => simp [intOf]; omega
              · have t0 : (d == 0) = false := by simp [dz0]
                have t1 : (d == 1) = false := by simp [dz1]
                have t2 : (d == 2) = false := by simp [dz2]
                have t3 : (d == 3) = false := by simp [dz3]
                have hnr : rightB { j with i := 0 } = false := by
                  cases hr : rightB { j with i := 0 } with
                  | false => rfl
                  | true => have h : (1 : Int) ≤ 0 := ((right_iff _).1 hr).i.1; omega
                have fin0 := fun W3 => fin.out fh { j with i := 0 } (.slice j1 j.st.length k1) (.slice j2 j.bo.length k2) (.slice j3 j.cu.length k3) W3 (by simp [okF, hnr])
                have ⟨e0, e1, e2, e3, e4, e5, e6, e7, e8, elt⟩ := (hJb.out _ K2).a
                have ⟨g0, g1, g2, g3, g4, g5, g6, g7, g8, glt⟩ := Y2.a
                have z0 := Y2.f 0
                have z1 := Y2.f 1
                have z2 := Y2.f 2
                have z3 := Y2.f 3
                have z4 := Y2.f 4
                have z5 := Y2.f 5
                have z6 := Y2.f 6
                have z7 := Y2.f 7
                have z8 := Y2.f 8
                have X3 := X2'.heap (setL_heap W2 q j (.slice j1 j.st.length k1) (.slice j2 j.bo.length k2) (.slice j3 j.cu.length k3) g (Ne.symm hqg)) (Nat.le_of_eq (setL_size _ _ _ _ _ _).symm)
                have O3 := O2.sameBlock (setL_heap W2 q j (.slice j1 j.st.length k1) (.slice j2 j.bo.length k2) (.slice j3 j.cu.length k3) G (by omega))
                have K3 : KP g w3 (setL W2 q j (.slice j1 j.st.length k1) (.slice j2 j.bo.length k2) (.slice j3 j.cu.length k3)) := ⟨by rw [setL_size]; exact K2.1, fun b hb hne => (setL_heap _ _ _ _ _ _ _ (by omega)).trans (K2.2 b hb hne)⟩
                have B3 := setL_below B2 hqw j (.slice j1 j.st.length k1) (.slice j2 j.bo.length k2) (.slice j3 j.cu.length k3)
                have Y3 := Y2.put j (.slice j1 j.st.length k1) (.slice j2 j.bo.length k2) (.slice j3 j.cu.length k3)
                have hjL := hJ
                go_upto_region 14 with (fail)
                clear e0 e1 e2 e3 e4 e5 e6 e7 e8 elt g0 g1 g2 g3 g4 g5 g6 g7 g8 glt z0 z1 z2 z3 z4 z5 z6 z7 z8 X2 X2' O2 K2 B2 Y2 t0 t1 t2 t3
                unfold setL at X3 O3 K3 B3 Y3
                generalize hW3 : ((((((((W2.setCell ⟨q, 0, none⟩ _).setCell ⟨q, 1, none⟩ _).setCell ⟨q, 2, none⟩ _).setCell ⟨q, 3, none⟩ _).setCell ⟨q, 4, none⟩ _).setCell ⟨q, 5, none⟩ _).setCell ⟨q, 6, none⟩ _).setCell ⟨q, 7, none⟩ _).setCell ⟨q, 8, none⟩ _ = W3 at *
                clear hW3
                have c0 := Y3.a.c0
                have z0 := Y3.f 0
                replace Y3 := Y3.num0 0
                replace X3 := X3.far (b := q) (o := 0) hqg (.int .i64 0)
                replace O3 := O3.setOther (a := ⟨q, 0, none⟩) (by simp [Value.ownBlock]; omega) (.int .i64 0)
                replace K3 := K3.new (b := q) (by omega) 0 (.int .i64 0)
                replace B3 := B3.setCell (p := ⟨q, 0, none⟩) hqw (.int .i64 0)
                go_upto_region 23 with (fail)
                clear c0 z0
                generalize W3.setCell ⟨q, 0, none⟩ (.int .i64 0) = W4 at *
                have fin' := fin0 W4 X3 O3 K3 B3 (fun W' hk => by have := hJ.out W' hk; exact ⟨this.s, this.b, this.c, this.ls, this.lb, this.lc⟩)
                clear fin0
                unfold Go.Proofs.YtaopknddpagjeaaDoor.setF at fin'
                have F3 := X3.at_ m (by simpa using hml)
                rw [List.getElem_set_self] at F3
                have ⟨f0, f1, f2, f3, f4, f5, f6, f7, f8, f9, flt⟩ := F3
                simp only at f0 f1 f2 f3 f4 f5 f6 f7 f8 f9
                have z1 := X3.f (m * 10 + 1)
                have z2 := X3.f (m * 10 + 2)
                have z3 := X3.f (m * 10 + 3)
                have z4 := X3.f (m * 10 + 4)
                have z5 := X3.f (m * 10 + 5)
                have z6 := X3.f (m * 10 + 6)
                have z7 := X3.f (m * 10 + 7)
                have z8 := X3.f (m * 10 + 8)
                have z9 := X3.f (m * 10 + 9)
                have ⟨e0, e1, e2, e3, e4, e5, e6, e7, e8, elt⟩ := Y3.a
                clear fin X3 O3 K3 B3 F3
                go_wp2_with (fail)
                go_roundw
                case rel =>
                  obtain ⟨l'', gone'', r1, r2, r3, r4, r5, r6⟩ := fin'
                  refine ⟨k + 1, l'', gone'', by omega, by go_num, r1, ?_, ?_, ?_, ?_, r6⟩
                  · with_reducible exact r2
                  · with_reducible exact r3
                  · with_reducible exact r4
                  · with_reducible exact r5
                case measure => simp [intOf]; omega
    · by_cases hkf : k < fors.length
      · have y1 : (k : Int) < (fors.length : Int) := by omega
        have y2 : ¬ ((k : Int) < (n : Int)) := by omega
        have FR := hX.reads (cap := cap) (fun f hf => hS f hf W hK)
        rw [hl'] at FR
        have hBs := hB.size
        have hgcell : Hid (∀ V, Below W.heap.size W V → ∀ i, i < n → V.cell? ⟨G, i, none⟩ = some (.bool (gone.getD i true))) := Lib.hid fun V hV i hi => by
          rw [(hO.after hV).cell (i := i) (by simp; omega)]
          simp [List.getD_eq_getElem?_getD, show i < gone.length by omega]
        have hgen : Hid (∀ V, Below W.heap.size W V → ∀ i (hi : i < l'.length), V.cell? ⟨g, i * 10 + 3, none⟩ = some (.int .i64 (gAt l' i))) := Lib.hid fun V hV i hi => by
          rw [gAt_at hi]
          exact ((hX.below hV).at_ i hi).c2
        clear hFo hJ hJb hfo
        go_wp2_with (fail)
        go_loopw [17, 18] (fun b i V => ∃ k : Nat, k ≤ n ∧ i = .int .i64 (k : Int) ∧ b = .int .i64 (bestV (bestTo x.i l' k)) ∧ Below W.heap.size W V) (fun _ i _ => n - (intOf i).toNat)
        case atStart => exact ⟨0, Nat.zero_le _, rfl, rfl, Below.refl _ _⟩
        case round =>
          obtain ⟨i, hi, rfl, rfl, hV⟩ := hrel
          rename World => V
          by_cases hin : i < n
          · have y3 : (i : Int) < (n : Int) := by omega
            have hci := hSp'.cnt hin
            have gc := hgcell.out V hV i hin
            cases hgi : gone.getD i true with
            | true =>
              rw [hgi] at gc hci
              have hnx := bestTo_no hci
              go_wp2_with (fail)
              go_quiet (fail)
              have hV3 := below_c hV (drew_below V nq)
              go_wp2_with (fail)
              go_roundw
              case rel => exact ⟨i + 1, by omega, by go_num, by rw [hnx], hV3⟩
              case measure => simp [intOf]; omega
            | false =>
              rw [hgi] at gc hci
              cases hbt : bestTo x.i l' i with
              | none =>
                have hnx := Lib.hid (bestTo_first hci hbt)
                simp only [bestV]
                go_wp2_with (fail)
                go_quiet (fail)
                have hV3 := below_c hV (drew_below V nq)
                go_wp2_with (fail)
                go_roundw
                case rel => exact ⟨i + 1, by omega, by go_num, by rw [hnx.out], hV3⟩
                case measure => simp [intOf]; omega
              | some b =>
                have hbl := (bestTo_lt hbt).1
                have c1 := hgen.out V hV i (by omega)
                have c2 := hgen.out V hV b (by omega)
                have y4 : ¬ ((b : Int) < 0) := by omega
                have y5 : (b : Int) < (n : Int) := by omega
                have hm1 := fun h => Lib.hid (bestTo_more hci hbt h)
                have hm2 := fun h => Lib.hid (bestTo_less hci hbt h)
                replace hm1 := Lib.hid hm1
                replace hm2 := Lib.hid hm2
                clear hci hbt
                simp only [bestV]
                generalize gAt l' i = gi at *
                generalize gAt l' b = gb at *
                by_cases hgt : gi > gb
                · have hnx := hm1.out hgt
                  have hgt' : gb < gi := hgt
                  go_wp2_with (fail)
                  go_quiet (fail)
                  have hV3 := below_c hV (drew_below V nq)
                  go_wp2_with (fail)
                  go_roundw
                  case rel => exact ⟨i + 1, by omega, by go_num, by rw [hnx.out], hV3⟩
                  case measure => simp [intOf]; omega
                · have hnx := hm2.out hgt
                  have hgt' : ¬ gb < gi := hgt
                  go_wp2_with (fail)
                  go_quiet (fail)
                  have hV3 := below_c hV (drew_below V nq)
                  go_wp2_with (fail)
                  go_roundw
                  case rel => exact ⟨i + 1, by omega, by go_num, by rw [hnx.out], hV3⟩
                  case measure => simp [intOf]; omega
          · have y3 : ¬ ((i : Int) < (n : Int)) := by omega
            obtain rfl : i = n := by omega
            have cC := choose_any x.i (.slice (some ⟨g, 0, none⟩) i cap) l' V (FR.below hV) (by omega)
            have BV := hB.trans (hV.mono hBs)
            cases hbt : bestTo x.i l' i with
            | none =>
              have q1 : choL x.i l' = noLbl := by unfold choL; rw [hl', hbt]
              have q2 : choU x.i l' = [] := by unfold choU; rw [hl', hbt]
              have q3 : choE x.i l' = 101 := by unfold choE; rw [hl', hbt]
              rw [q1, q2, q3] at cC
              clear q1 q2 q3
              simp only [bestV]
              go_wp2_with (fail)
              refine cC.mono ?_
              rintro e w8 ⟨xa, xb, xc, xu, rfl, O8, U8, b8⟩
              clear cC hgcell hgen FR
              obtain ⟨a81, d81, ev⟩ := O8.a.isSlice
              subst ev
              obtain ⟨a82, d82, ev⟩ := O8.b.isSlice
              subst ev
              obtain ⟨a83, d83, ev⟩ := O8.c.isSlice
              subst ev
              obtain ⟨ua, ud, ev⟩ := U8.isSlice
              subst ev
              have bk := (Below.refl w8.heap.size w8).alloc (Nat.le_refl _) (.cells #[.int .i64 0, .int .i64 0, .int .i64 0, .int .i64 0, .int .i64 0, .int .i64 0, .slice a81 0 d81, .slice a82 0 d82, .slice a83 0 d83] 26)
              simp only [Lbl.v, noLbl, List.map_nil, List.length_nil] at bk ⊢
              have Bf := BV.trans ((b8.trans (bk.mono b8.size)).mono BV.size)
              go_upto_region 31 with (fail)
              clear bk b8 O8 U8
              generalize w8.alloc _ = w9 at *
              go_wp2_with (fail)
              go_ret
              exact ⟨rfl, Bf⟩
            | some b =>
              have hbl := (bestTo_lt hbt)
              have hgb : gone.getD b true = false := by
                have := hbl.2
                rw [hSp'.cnt hbl.1] at this
                simpa using this
              have hbl' : b < l'.length := by omega
              have hbt' : bestTo x.i l' l'.length = some b := by rw [hl']; exact hbt
              have q1 : choL x.i l' = l'[b].x := by unfold choL; rw [hbt']; simp only; rw [List.getElem?_eq_getElem hbl']
              have q2 : choU x.i l' = uses x.i l' b := by unfold choU; rw [hbt']
              have q3 : choE x.i l' = 0 := by unfold choE; rw [hbt']
              rw [q1, q2, q3] at cC
              clear q1 q2 q3 hbt'
              have hul : (uses x.i l' b).length = i := by rw [uses_len]; exact hl'
              have huse : Hid (∀ k, k < i → (uses x.i l' b).getD k true = !(gone.getD k true)) := Lib.hid fun k hk => by
                rw [uses_get _ _ _ _ (by omega)]; exact hSp'.use hbl.1 hgb hk
              generalize uses x.i l' b = us at *
              have LB := hS l'[b] (List.getElem_mem hbl')
              have FB := (hX.below hV).at_ b hbl'
              generalize l'[b] = fd at *
              obtain ⟨fh, z, za, zb, zc⟩ := fd
              simp only at LB
              have LV := LB V (hK.more hV)
              obtain ⟨z1, e1, ev⟩ := LV.s.isSlice
              rw [List.length_map] at ev
              subst ev
              obtain ⟨z2, e2, ev⟩ := LV.b.isSlice
              rw [List.length_map] at ev
              subst ev
              obtain ⟨z3, e3, ev⟩ := LV.c.isSlice
              rw [List.length_map] at ev
              subst ev
              simp only [bestV]
              go_wp2_with (fail)
              refine cC.mono ?_
              rintro e w8 ⟨xa, xb, xc, xu, rfl, O8, U8, b8⟩
              clear cC hgen FR LB
              obtain ⟨a81, d81, ev⟩ := O8.a.isSlice
              rw [List.length_map] at ev
              subst ev
              obtain ⟨a82, d82, ev⟩ := O8.b.isSlice
              rw [List.length_map] at ev
              subst ev
              obtain ⟨a83, d83, ev⟩ := O8.c.isSlice
              rw [List.length_map] at ev
              subst ev
              obtain ⟨ug, ud, rfl, _, _⟩ := U8.form (by simp; omega)
              rw [List.length_map, hul] at U8 ⊢
              have Y8 : LblBox (w8.alloc (.cells #[.int .i64 z.i, .int .i64 z.s, .int .i64 z.g, .int .i64 z.k, .int .i64 z.m, .int .i64 z.b, .slice a81 z.st.length d81, .slice a82 z.bo.length d82, .slice a83 z.cu.length d83] 26)) w8.heap.size z (.slice a81 z.st.length d81) (.slice a82 z.bo.length d82) (.slice a83 z.cu.length d83) := ⟨LblAt.made w8 z (.slice a81 z.st.length d81) (.slice a82 z.bo.length d82) (.slice a83 z.cu.length d83) 26, fun o => frozen_of_row _ _ _ _ _ (heap_alloc_new _ _)⟩
              have bk : Below w8.heap.size w8 (w8.alloc (.cells #[.int .i64 z.i, .int .i64 z.s, .int .i64 z.g, .int .i64 z.k, .int .i64 z.m, .int .i64 z.b, .slice a81 z.st.length d81, .slice a82 z.bo.length d82, .slice a83 z.cu.length d83] 26)) := (Below.refl _ _).alloc (Nat.le_refl _) _
              have L8 := O8.lr LV.ls LV.lb LV.lc
              simp only [Lbl.v]
              go_upto_region 31 with (fail)
              have L9 := L8.below bk
              have U9 := U8.after bk
              have b9 := b8.trans (bk.mono b8.size)
              have B9 := BV.trans (b9.mono BV.size)
              have V9 := hV.trans (b9.mono hV.size)
              have F9 := FB.below b9 FB.lt
              have M9 := LV.below b9
              clear bk b8 O8 U8 L8 FB LV
              generalize w8.alloc _ = w9 at *
              obtain ⟨t, ht⟩ : ∃ t, w8.heap.size = t := ⟨_, rfl⟩
              rw [ht] at Y8 ⊢
              clear ht
              have ybn : ¬ ((b : Int) < 0) := by omega
              have ybi : (b : Int) < (i : Int) := by omega
              go_upto_region 33 with (fail)
              have cS := fun W h1 h2 => lsame_any z z (.slice a81 z.st.length d81) (.slice a82 z.bo.length d82) (.slice a83 z.cu.length d83) (.slice z1 z.st.length e1) (.slice z2 z.bo.length e2) (.slice z3 z.cu.length e3) W h1 h2
              simp only [decide_true] at cS
              unfold Lbl.v at cS
              have ⟨s0, s1, s2, s3, s4, s5, s6, s7, s8, slt⟩ := Y8.a
              have ⟨fc0, f0, f1, f2, f3, f4, f5, f6, f7, f8, flt⟩ := F9
              simp only at f0 f1 f2 f3 f4 f5 f6 f7 f8
              refine wp_region_cls (Below w9.heap.size w9) (by kernel_rfl) (by kernel_rfl) (Below.refl _ _).drew ?_
              intro Z f hne hD hE
              have r0 : ∀ zz, (f zz).cell? ⟨t, 0, none⟩ = some (.int .i64 z.i) := fun zz => (clsCell hD zz _ _ slt).trans s0
              have r1 : ∀ zz, (f zz).cell? ⟨t, 1, none⟩ = some (.int .i64 z.s) := fun zz => (clsCell hD zz _ _ slt).trans s1
              have r2 : ∀ zz, (f zz).cell? ⟨t, 2, none⟩ = some (.int .i64 z.g) := fun zz => (clsCell hD zz _ _ slt).trans s2
              have r3 : ∀ zz, (f zz).cell? ⟨t, 3, none⟩ = some (.int .i64 z.k) := fun zz => (clsCell hD zz _ _ slt).trans s3
              have r4 : ∀ zz, (f zz).cell? ⟨t, 4, none⟩ = some (.int .i64 z.m) := fun zz => (clsCell hD zz _ _ slt).trans s4
              have r5 : ∀ zz, (f zz).cell? ⟨t, 5, none⟩ = some (.int .i64 z.b) := fun zz => (clsCell hD zz _ _ slt).trans s5
              have r6 : ∀ zz, (f zz).cell? ⟨t, 6, none⟩ = some (.slice a81 z.st.length d81) := fun zz => (clsCell hD zz _ _ slt).trans s6
              have r7 : ∀ zz, (f zz).cell? ⟨t, 7, none⟩ = some (.slice a82 z.bo.length d82) := fun zz => (clsCell hD zz _ _ slt).trans s7
              have r8 : ∀ zz, (f zz).cell? ⟨t, 8, none⟩ = some (.slice a83 z.cu.length d83) := fun zz => (clsCell hD zz _ _ slt).trans s8
              have g0 : ∀ zz, (f zz).cell? ⟨g, b * 10 + 1, none⟩ = some (.int .i64 z.i) := fun zz => (clsCell hD zz _ _ flt).trans f0
              have g1 : ∀ zz, (f zz).cell? ⟨g, b * 10 + 2, none⟩ = some (.int .i64 z.s) := fun zz => (clsCell hD zz _ _ flt).trans f1
              have g2 : ∀ zz, (f zz).cell? ⟨g, b * 10 + 3, none⟩ = some (.int .i64 z.g) := fun zz => (clsCell hD zz _ _ flt).trans f2
              have g3 : ∀ zz, (f zz).cell? ⟨g, b * 10 + 4, none⟩ = some (.int .i64 z.k) := fun zz => (clsCell hD zz _ _ flt).trans f3
              have g4 : ∀ zz, (f zz).cell? ⟨g, b * 10 + 5, none⟩ = some (.int .i64 z.m) := fun zz => (clsCell hD zz _ _ flt).trans f4
              have g5 : ∀ zz, (f zz).cell? ⟨g, b * 10 + 6, none⟩ = some (.int .i64 z.b) := fun zz => (clsCell hD zz _ _ flt).trans f5
              have g6 : ∀ zz, (f zz).cell? ⟨g, b * 10 + 7, none⟩ = some (.slice z1 z.st.length e1) := fun zz => (clsCell hD zz _ _ flt).trans f6
              have g7 : ∀ zz, (f zz).cell? ⟨g, b * 10 + 8, none⟩ = some (.slice z2 z.bo.length e2) := fun zz => (clsCell hD zz _ _ flt).trans f7
              have g8 : ∀ zz, (f zz).cell? ⟨g, b * 10 + 9, none⟩ = some (.slice z3 z.cu.length e3) := fun zz => (clsCell hD zz _ _ flt).trans f8
              clear s0 s1 s2 s3 s4 s5 s6 s7 s8 fc0 f0 f1 f2 f3 f4 f5 f6 f7 f8
              repeat (go_big_quiet_step (first | (go_at_call 17; with_reducible exact toQB hD hE _ (cS _ (L9.below (hD _)) (M9.below (hD _))))))
              refine wpQuiet_nil ?_
              intro _ hw'
              obtain ⟨zq, hw''⟩ := hw'
              subst hw''
              have hd := hD zq
              have U10 := U9.after hd
              have V10 := V9.trans (hd.mono V9.size)
              have B10 := B9.trans (hd.mono B9.size)
              clear hE r0 g0 r1 g1 r2 g2 r3 g3 r4 g4 r5 g5 r6 g6 r7 g7 r8 g8 hD V9 B9 U9
              generalize f zq = w10 at *
              have hucell : Hid (∀ V', Below w10.heap.size w10 V' → ∀ k, k < i → V'.cell? ⟨ug, k, none⟩ = some (.bool (!(gone.getD k true)))) := Lib.hid fun V' hV' k hk => by
                rw [(U10.after hV').cell (i := k) (by simp; omega), ← huse.out k hk]
                simp [List.getD_eq_getElem?_getD, show k < us.length by omega]
              have hgc10 : Hid (∀ V', Below w10.heap.size w10 V' → ∀ k, k < i → V'.cell? ⟨G, k, none⟩ = some (.bool (gone.getD k true))) := Lib.hid fun V' hV' k hk => hgcell.out V' (V10.trans (hV'.mono V10.size)) k hk
              have hs10 := B10.size
              clear hgcell huse U10
              go_wp2_with (fail)
              go_loopw [22] (fun a V' => ∃ k : Nat, k ≤ i ∧ a = .int .i64 (k : Int) ∧ Below w10.heap.size w10 V') (fun a _ => i - (intOf a).toNat)
              case atStart => exact ⟨0, Nat.zero_le _, rfl, Below.refl _ _⟩
              case round =>
                obtain ⟨k, hk, rfl, hV'⟩ := hrel
                rename World => V'
                by_cases hki : k < i
                · have y5 : (k : Int) < (i : Int) := by omega
                  have uc := hucell.out V' hV' k hki
                  have gc := hgc10.out V' hV' k hki
                  cases hg : gone.getD k true
                  all_goals
                    simp only [hg, Bool.not_true, Bool.not_false] at uc gc
                    go_wp2_with (fail)
                    go_quiet (fail)
                    have hV3 := below_c hV' (drew_below V' nq)
                    go_wp2_with (fail)
                    go_roundw
                    case rel => exact ⟨k + 1, by omega, by go_num, hV3⟩
                    case measure => simp [intOf]; omega
                · have y5 : ¬ ((k : Int) < (i : Int)) := by omega
                  go_wp2_with (fail)
                  go_ret
                  exact ⟨rfl, B10.trans (hV'.mono hs10)⟩
      · have y1 : ¬ ((k : Int) < (fors.length : Int)) := by omega
        have FR := hX.reads (cap := cap) (fun f hf => hS f hf W hK)
        rw [hl'] at FR
        have hBs := hB.size
        have hgcell : Hid (∀ V, Below W.heap.size W V → ∀ i, i < n → V.cell? ⟨G, i, none⟩ = some (.bool (gone.getD i true))) := Lib.hid fun V hV i hi => by
          rw [(hO.after hV).cell (i := i) (by simp; omega)]
          simp [List.getD_eq_getElem?_getD, show i < gone.length by omega]
        have hgen : Hid (∀ V, Below W.heap.size W V → ∀ i (hi : i < l'.length), V.cell? ⟨g, i * 10 + 3, none⟩ = some (.int .i64 (gAt l' i))) := Lib.hid fun V hV i hi => by
          rw [gAt_at hi]
          exact ((hX.below hV).at_ i hi).c2
        clear hFo hJ hJb hfo
        go_wp2_with (fail)
        go_loopw [17, 18] (fun b i V => ∃ k : Nat, k ≤ n ∧ i = .int .i64 (k : Int) ∧ b = .int .i64 (bestV (bestTo x.i l' k)) ∧ Below W.heap.size W V) (fun _ i _ => n - (intOf i).toNat)
        case atStart => exact ⟨0, Nat.zero_le _, rfl, rfl, Below.refl _ _⟩
        case round =>
          obtain ⟨i, hi, rfl, rfl, hV⟩ := hrel
          rename World => V
          by_cases hin : i < n
          · have y3 : (i : Int) < (n : Int) := by omega
            have hci := hSp'.cnt hin
            have gc := hgcell.out V hV i hin
            cases hgi : gone.getD i true with
            | true =>
              rw [hgi] at gc hci
              have hnx := bestTo_no hci
              go_wp2_with (fail)
              go_quiet (fail)
              have hV3 := below_c hV (drew_below V nq)
              go_wp2_with (fail)
              go_roundw
              case rel => exact ⟨i + 1, by omega, by go_num, by rw [hnx], hV3⟩
              case measure => simp [intOf]; omega
            | false =>
              rw [hgi] at gc hci
              cases hbt : bestTo x.i l' i with
              | none =>
                have hnx := Lib.hid (bestTo_first hci hbt)
                simp only [bestV]
                go_wp2_with (fail)
                go_quiet (fail)
                have hV3 := below_c hV (drew_below V nq)
                go_wp2_with (fail)
                go_roundw
                case rel => exact ⟨i + 1, by omega, by go_num, by rw [hnx.out], hV3⟩
                case measure => simp [intOf]; omega
              | some b =>
                have hbl := (bestTo_lt hbt).1
                have c1 := hgen.out V hV i (by omega)
                have c2 := hgen.out V hV b (by omega)
                have y4 : ¬ ((b : Int) < 0) := by omega
                have y5 : (b : Int) < (n : Int) := by omega
                have hm1 := fun h => Lib.hid (bestTo_more hci hbt h)
                have hm2 := fun h => Lib.hid (bestTo_less hci hbt h)
                replace hm1 := Lib.hid hm1
                replace hm2 := Lib.hid hm2
                clear hci hbt
                simp only [bestV]
                generalize gAt l' i = gi at *
                generalize gAt l' b = gb at *
                by_cases hgt : gi > gb
                · have hnx := hm1.out hgt
                  have hgt' : gb < gi := hgt
                  go_wp2_with (fail)
                  go_quiet (fail)
                  have hV3 := below_c hV (drew_below V nq)
                  go_wp2_with (fail)
                  go_roundw
                  case rel => exact ⟨i + 1, by omega, by go_num, by rw [hnx.out], hV3⟩
                  case measure => simp [intOf]; omega
                · have hnx := hm2.out hgt
                  have hgt' : ¬ gb < gi := hgt
                  go_wp2_with (fail)
                  go_quiet (fail)
                  have hV3 := below_c hV (drew_below V nq)
                  go_wp2_with (fail)
                  go_roundw
                  case rel => exact ⟨i + 1, by omega, by go_num, by rw [hnx.out], hV3⟩
                  case measure => simp [intOf]; omega
          · have y3 : ¬ ((i : Int) < (n : Int)) := by omega
            obtain rfl : i = n := by omega
            have cC := choose_any x.i (.slice (some ⟨g, 0, none⟩) i cap) l' V (FR.below hV) (by omega)
            have BV := hB.trans (hV.mono hBs)
            cases hbt : bestTo x.i l' i with
            | none =>
              have q1 : choL x.i l' = noLbl := by unfold choL; rw [hl', hbt]
              have q2 : choU x.i l' = [] := by unfold choU; rw [hl', hbt]
              have q3 : choE x.i l' = 101 := by unfold choE; rw [hl', hbt]
              rw [q1, q2, q3] at cC
              clear q1 q2 q3
              simp only [bestV]
              go_wp2_with (fail)
              refine cC.mono ?_
              rintro e w8 ⟨xa, xb, xc, xu, rfl, O8, U8, b8⟩
              clear cC hgcell hgen FR
              obtain ⟨a81, d81, ev⟩ := O8.a.isSlice
              subst ev
              obtain ⟨a82, d82, ev⟩ := O8.b.isSlice
              subst ev
              obtain ⟨a83, d83, ev⟩ := O8.c.isSlice
              subst ev
              obtain ⟨ua, ud, ev⟩ := U8.isSlice
              subst ev
              have bk := (Below.refl w8.heap.size w8).alloc (Nat.le_refl _) (.cells #[.int .i64 0, .int .i64 0, .int .i64 0, .int .i64 0, .int .i64 0, .int .i64 0, .slice a81 0 d81, .slice a82 0 d82, .slice a83 0 d83] 26)
              simp only [Lbl.v, noLbl, List.map_nil, List.length_nil] at bk ⊢
              have Bf := BV.trans ((b8.trans (bk.mono b8.size)).mono BV.size)
              go_upto_region 31 with (fail)
              clear bk b8 O8 U8
              generalize w8.alloc _ = w9 at *
              go_wp2_with (fail)
              go_ret
              exact ⟨rfl, Bf⟩
            | some b =>
              have hbl := (bestTo_lt hbt)
              have hgb : gone.getD b true = false := by
                have := hbl.2
                rw [hSp'.cnt hbl.1] at this
                simpa using this
              have hbl' : b < l'.length := by omega
              have hbt' : bestTo x.i l' l'.length = some b := by rw [hl']; exact hbt
              have q1 : choL x.i l' = l'[b].x := by unfold choL; rw [hbt']; simp only; rw [List.getElem?_eq_getElem hbl']
              have q2 : choU x.i l' = uses x.i l' b := by unfold choU; rw [hbt']
              have q3 : choE x.i l' = 0 := by unfold choE; rw [hbt']
              rw [q1, q2, q3] at cC
              clear q1 q2 q3 hbt'
              have hul : (uses x.i l' b).length = i := by rw [uses_len]; exact hl'
              have huse : Hid (∀ k, k < i → (uses x.i l' b).getD k true = !(gone.getD k true)) := Lib.hid fun k hk => by
                rw [uses_get _ _ _ _ (by omega)]; exact hSp'.use hbl.1 hgb hk
              generalize uses x.i l' b = us at *
              have LB := hS l'[b] (List.getElem_mem hbl')
              have FB := (hX.below hV).at_ b hbl'
              generalize l'[b] = fd at *
              obtain ⟨fh, z, za, zb, zc⟩ := fd
              simp only at LB
              have LV := LB V (hK.more hV)
              obtain ⟨z1, e1, ev⟩ := LV.s.isSlice
              rw [List.length_map] at ev
              subst ev
              obtain ⟨z2, e2, ev⟩ := LV.b.isSlice
              rw [List.length_map] at ev
              subst ev
              obtain ⟨z3, e3, ev⟩ := LV.c.isSlice
              rw [List.length_map] at ev
              subst ev
              simp only [bestV]
              go_wp2_with (fail)
              refine cC.mono ?_
              rintro e w8 ⟨xa, xb, xc, xu, rfl, O8, U8, b8⟩
              clear cC hgen FR LB
              obtain ⟨a81, d81, ev⟩ := O8.a.isSlice
              rw [List.length_map] at ev
              subst ev
              obtain ⟨a82, d82, ev⟩ := O8.b.isSlice
              rw [List.length_map] at ev
              subst ev
              obtain ⟨a83, d83, ev⟩ := O8.c.isSlice
              rw [List.length_map] at ev
              subst ev
              obtain ⟨ug, ud, rfl, _, _⟩ := U8.form (by simp; omega)
              rw [List.length_map, hul] at U8 ⊢
              have Y8 : LblBox (w8.alloc (.cells #[.int .i64 z.i, .int .i64 z.s, .int .i64 z.g, .int .i64 z.k, .int .i64 z.m, .int .i64 z.b, .slice a81 z.st.length d81, .slice a82 z.bo.length d82, .slice a83 z.cu.length d83] 26)) w8.heap.size z (.slice a81 z.st.length d81) (.slice a82 z.bo.length d82) (.slice a83 z.cu.length d83) := ⟨LblAt.made w8 z (.slice a81 z.st.length d81) (.slice a82 z.bo.length d82) (.slice a83 z.cu.length d83) 26, fun o => frozen_of_row _ _ _ _ _ (heap_alloc_new _ _)⟩
              have bk : Below w8.heap.size w8 (w8.alloc (.cells #[.int .i64 z.i, .int .i64 z.s, .int .i64 z.g, .int .i64 z.k, .int .i64 z.m, .int .i64 z.b, .slice a81 z.st.length d81, .slice a82 z.bo.length d82, .slice a83 z.cu.length d83] 26)) := (Below.refl _ _).alloc (Nat.le_refl _) _
              have L8 := O8.lr LV.ls LV.lb LV.lc
              simp only [Lbl.v]
              go_upto_region 31 with (fail)
              have L9 := L8.below bk
              have U9 := U8.after bk
              have b9 := b8.trans (bk.mono b8.size)
              have B9 := BV.trans (b9.mono BV.size)
              have V9 := hV.trans (b9.mono hV.size)
              have F9 := FB.below b9 FB.lt
              have M9 := LV.below b9
              clear bk b8 O8 U8 L8 FB LV
              generalize w8.alloc _ = w9 at *
              obtain ⟨t, ht⟩ : ∃ t, w8.heap.size = t := ⟨_, rfl⟩
              rw [ht] at Y8 ⊢
              clear ht
              have ybn : ¬ ((b : Int) < 0) := by omega
              have ybi : (b : Int) < (i : Int) := by omega
              go_upto_region 33 with (fail)
              have cS := fun W h1 h2 => lsame_any z z (.slice a81 z.st.length d81) (.slice a82 z.bo.length d82) (.slice a83 z.cu.length d83) (.slice z1 z.st.length e1) (.slice z2 z.bo.length e2) (.slice z3 z.cu.length e3) W h1 h2
              simp only [decide_true] at cS
              unfold Lbl.v at cS
              have ⟨s0, s1, s2, s3, s4, s5, s6, s7, s8, slt⟩ := Y8.a
              have ⟨fc0, f0, f1, f2, f3, f4, f5, f6, f7, f8, flt⟩ := F9
              simp only at f0 f1 f2 f3 f4 f5 f6 f7 f8
              refine wp_region_cls (Below w9.heap.size w9) (by kernel_rfl) (by kernel_rfl) (Below.refl _ _).drew ?_
              intro Z f hne hD hE
              have r0 : ∀ zz, (f zz).cell? ⟨t, 0, none⟩ = some (.int .i64 z.i) := fun zz => (clsCell hD zz _ _ slt).trans s0
              have r1 : ∀ zz, (f zz).cell? ⟨t, 1, none⟩ = some (.int .i64 z.s) := fun zz => (clsCell hD zz _ _ slt).trans s1
              have r2 : ∀ zz, (f zz).cell? ⟨t, 2, none⟩ = some (.int .i64 z.g) := fun zz => (clsCell hD zz _ _ slt).trans s2
              have r3 : ∀ zz, (f zz).cell? ⟨t, 3, none⟩ = some (.int .i64 z.k) := fun zz => (clsCell hD zz _ _ slt).trans s3
              have r4 : ∀ zz, (f zz).cell? ⟨t, 4, none⟩ = some (.int .i64 z.m) := fun zz => (clsCell hD zz _ _ slt).trans s4
              have r5 : ∀ zz, (f zz).cell? ⟨t, 5, none⟩ = some (.int .i64 z.b) := fun zz => (clsCell hD zz _ _ slt).trans s5
              have r6 : ∀ zz, (f zz).cell? ⟨t, 6, none⟩ = some (.slice a81 z.st.length d81) := fun zz => (clsCell hD zz _ _ slt).trans s6
              have r7 : ∀ zz, (f zz).cell? ⟨t, 7, none⟩ = some (.slice a82 z.bo.length d82) := fun zz => (clsCell hD zz _ _ slt).trans s7
              have r8 : ∀ zz, (f zz).cell? ⟨t, 8, none⟩ = some (.slice a83 z.cu.length d83) := fun zz => (clsCell hD zz _ _ slt).trans s8
              have g0 : ∀ zz, (f zz).cell? ⟨g, b * 10 + 1, none⟩ = some (.int .i64 z.i) := fun zz => (clsCell hD zz _ _ flt).trans f0
              have g1 : ∀ zz, (f zz).cell? ⟨g, b * 10 + 2, none⟩ = some (.int .i64 z.s) := fun zz => (clsCell hD zz _ _ flt).trans f1
              have g2 : ∀ zz, (f zz).cell? ⟨g, b * 10 + 3, none⟩ = some (.int .i64 z.g) := fun zz => (clsCell hD zz _ _ flt).trans f2
              have g3 : ∀ zz, (f zz).cell? ⟨g, b * 10 + 4, none⟩ = some (.int .i64 z.k) := fun zz => (clsCell hD zz _ _ flt).trans f3
              have g4 : ∀ zz, (f zz).cell? ⟨g, b * 10 + 5, none⟩ = some (.int .i64 z.m) := fun zz => (clsCell hD zz _ _ flt).trans f4
              have g5 : ∀ zz, (f zz).cell? ⟨g, b * 10 + 6, none⟩ = some (.int .i64 z.b) := fun zz => (clsCell hD zz _ _ flt).trans f5
              have g6 : ∀ zz, (f zz).cell? ⟨g, b * 10 + 7, none⟩ = some (.slice z1 z.st.length e1) := fun zz => (clsCell hD zz _ _ flt).trans f6
              have g7 : ∀ zz, (f zz).cell? ⟨g, b * 10 + 8, none⟩ = some (.slice z2 z.bo.length e2) := fun zz => (clsCell hD zz _ _ flt).trans f7
              have g8 : ∀ zz, (f zz).cell? ⟨g, b * 10 + 9, none⟩ = some (.slice z3 z.cu.length e3) := fun zz => (clsCell hD zz _ _ flt).trans f8
              clear s0 s1 s2 s3 s4 s5 s6 s7 s8 fc0 f0 f1 f2 f3 f4 f5 f6 f7 f8
              repeat (go_big_quiet_step (first | (go_at_call 17; with_reducible exact toQB hD hE _ (cS _ (L9.below (hD _)) (M9.below (hD _))))))
              refine wpQuiet_nil ?_
              intro _ hw'
              obtain ⟨zq, hw''⟩ := hw'
              subst hw''
              have hd := hD zq
              have U10 := U9.after hd
              have V10 := V9.trans (hd.mono V9.size)
              have B10 := B9.trans (hd.mono B9.size)
              clear hE r0 g0 r1 g1 r2 g2 r3 g3 r4 g4 r5 g5 r6 g6 r7 g7 r8 g8 hD V9 B9 U9
              generalize f zq = w10 at *
              have hucell : Hid (∀ V', Below w10.heap.size w10 V' → ∀ k, k < i → V'.cell? ⟨ug, k, none⟩ = some (.bool (!(gone.getD k true)))) := Lib.hid fun V' hV' k hk => by
                rw [(U10.after hV').cell (i := k) (by simp; omega), ← huse.out k hk]
                simp [List.getD_eq_getElem?_getD, show k < us.length by omega]
              have hgc10 : Hid (∀ V', Below w10.heap.size w10 V' → ∀ k, k < i → V'.cell? ⟨G, k, none⟩ = some (.bool (gone.getD k true))) := Lib.hid fun V' hV' k hk => hgcell.out V' (V10.trans (hV'.mono V10.size)) k hk
              have hs10 := B10.size
              clear hgcell huse U10
              go_wp2_with (fail)
              go_loopw [22] (fun a V' => ∃ k : Nat, k ≤ i ∧ a = .int .i64 (k : Int) ∧ Below w10.heap.size w10 V') (fun a _ => i - (intOf a).toNat)
              case atStart => exact ⟨0, Nat.zero_le _, rfl, Below.refl _ _⟩
              case round =>
                obtain ⟨k, hk, rfl, hV'⟩ := hrel
                rename World => V'
                by_cases hki : k < i
                · have y5 : (k : Int) < (i : Int) := by omega
                  have uc := hucell.out V' hV' k hki
                  have gc := hgc10.out V' hV' k hki
                  cases hg : gone.getD k true
                  all_goals
                    simp only [hg, Bool.not_true, Bool.not_false] at uc gc
                    go_wp2_with (fail)
                    go_quiet (fail)
                    have hV3 := below_c hV' (drew_below V' nq)
                    go_wp2_with (fail)
                    go_roundw
                    case rel => exact ⟨k + 1, by omega, by go_num, hV3⟩
                    case measure => simp [intOf]; omega
                · have y5 : ¬ ((k : Int) < (i : Int)) := by omega
                  go_wp2_with (fail)
                  go_ret
                  exact ⟨rfl, B10.trans (hV'.mono hs10)⟩
end Go.Proofs.YtaopknddpagjeaaDoor
