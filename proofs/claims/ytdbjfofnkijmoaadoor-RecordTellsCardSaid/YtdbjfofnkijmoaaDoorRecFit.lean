/- record: raw records made right, walked. -/
import Derived.Test.YtdbjfofnkijmoaaDoorRecFitM
import Derived.Deep.CutRange
namespace Go.Proofs.YtdbjfofnkijmoaaDoor
open Go.RowKit
set_option linter.unusedVariables false
set_option linter.unusedSimpArgs false

open Rc
/-- A raw record in memory; what does not change. -/
structure FB (w : World) (p g : Nat) (r : Raw) (vs vl : Value) (wr : World) : Prop where
  a0 : wr.cell? ⟨p, 0, none⟩ = some (.int .i64 r.k)
  a1 : wr.cell? ⟨p, 1, none⟩ = some (.int .i64 r.m)
  a2 : wr.cell? ⟨p, 2, none⟩ = some (.int .i64 r.b)
  a3 : wr.cell? ⟨p, 3, none⟩ = some (.int .i64 r.q)
  a4 : wr.cell? ⟨p, 4, none⟩ = some vs
  a5 : wr.cell? ⟨p, 5, none⟩ = some vl
  z0 : wr.cell? ⟨p + 1, 0, none⟩ = some (.int .i64 0)
  z1 : wr.cell? ⟨p + 1, 1, none⟩ = some (.int .i64 0)
  z2 : wr.cell? ⟨p + 1, 2, none⟩ = some (.int .i64 0)
  f0 : wr.frozen? ⟨p + 1, 0, none⟩ = false
  f1 : wr.frozen? ⟨p + 1, 1, none⟩ = false
  f2 : wr.frozen? ⟨p + 1, 2, none⟩ = false
  y : RBx wr (p + 1 + 1) 0 (.slice none 0 0)
  gb : GBx wr g (fK r.k) (fM r.m) (fB r.b)
  hg : p + 3 ≤ g
  b : Below p w wr
theorem FB.to {w wr w' : World} {p g : Nat} {r : Raw} {vs vl : Value} (h : FB w p g r vs vl wr) (e : ∀ i, i < wr.heap.size → i ≤ g → w'.heap[i]? = wr.heap[i]?) (hs : wr.heap.size ≤ w'.heap.size) (hb : Below p w w') : FB w p g r vs vl w' := by
  have hgl := h.gb.lt
  have hg := h.hg
  have e0 := e p (by omega) (by omega)
  have e1 := e (p + 1) (by omega) (by omega)
  have e2 := e (p + 1 + 1) (by omega) (by omega)
  have e3 := e g hgl (Nat.le_refl _)
  exact ⟨(cell_of_heap e0 _).trans h.a0, (cell_of_heap e0 _).trans h.a1, (cell_of_heap e0 _).trans h.a2, (cell_of_heap e0 _).trans h.a3, (cell_of_heap e0 _).trans h.a4, (cell_of_heap e0 _).trans h.a5,
    (cell_of_heap e1 _).trans h.z0, (cell_of_heap e1 _).trans h.z1, (cell_of_heap e1 _).trans h.z2, (frozen_of_heap e1 _).trans h.f0, (frozen_of_heap e1 _).trans h.f1, (frozen_of_heap e1 _).trans h.f2, h.y.heap e2 hs, h.gb.heap e3 hs, h.hg, hb⟩
theorem FB.below {w wr w' : World} {p g : Nat} {r : Raw} {vs vl : Value} (h : FB w p g r vs vl wr) (hb : Below wr.heap.size wr w') : FB w p g r vs vl w' :=
  h.to (fun i hi _ => hb.block i hi) hb.size (h.b.trans (hb.mono (by have := h.gb.lt; have := h.hg; omega)))
theorem FB.drew {w wr : World} {p g : Nat} {r : Raw} {vs vl : Value} (h : FB w p g r vs vl wr) : FB w p g r vs vl wr.drew :=
  h.to (fun _ _ _ => rfl) (Nat.le_refl _) (h.b.trans ⟨rfl, rfl, rfl, Nat.le_refl _, fun _ _ => rfl⟩)
theorem FB.set {w wr : World} {p g : Nat} {r : Raw} {vs vl : Value} (h : FB w p g r vs vl wr) {c : Nat} (hc : g < c) (o : Nat) (u : Value) : FB w p g r vs vl (wr.setCell ⟨c, o, none⟩ u) :=
  h.to (fun i _ hi => Below.heap_setCell _ _ _ _ (by show i ≠ c; omega)) (by simp) (h.b.setCell (p := ⟨c, o, none⟩) (by have := h.hg; show p ≤ c; omega) _)
/-- The raw numbers are ints. -/
structure RawOk (r : Raw) : Prop where
  k : -9223372036854775808 ≤ r.k ∧ r.k ≤ 9223372036854775807
  m : -9223372036854775808 ≤ r.m ∧ r.m ≤ 9223372036854775807
  b : -9223372036854775808 ≤ r.b ∧ r.b ≤ 9223372036854775807
  q : -9223372036854775808 ≤ r.q ∧ r.q ≤ 9223372036854775807
  st : ∀ c ∈ r.st, -9223372036854775808 ≤ c ∧ c ≤ 9223372036854775807
  le : ∀ c ∈ r.le, -9223372036854775808 ≤ c ∧ c ≤ 9223372036854775807
  sn : r.st.length ≤ 140737488355328
  ln : r.le.length ≤ 140737488355328
def GivesF (w : World) (r : Raw) (e : Ending) (w' : World) : Prop :=
  ∃ v l, e = .returned (.tuple #[.agg #[.int .i64 (fK r.k), .int .i64 (fM r.m), .int .i64 (fB r.b)], .agg #[.int .i64 (fitQ r), v]]) ∧ SFam w' w.heap.size v l ∧ l.map pr = fitS r ∧ Below w.heap.size w w'
def Raw.v (r : Raw) (vs vl : Value) : Value := .agg #[.int .i64 r.k, .int .i64 r.m, .int .i64 r.b, .int .i64 r.q, vs, vl]
theorem letter_rng {r : Raw} (h : RawOk r) (k : Nat) (hk : k ≤ 10000) : -9223372036854775808 ≤ letter r.le k ∧ letter r.le k ≤ 9223372036854775807 := by
  unfold letter
  split
  · omega
  · have hi : k % r.le.length < r.le.length := Nat.mod_lt _ (by omega)
    rw [List.getD_eq_getElem?_getD, List.getElem?_eq_getElem hi, Option.getD_some]
    exact h.le _ (List.getElem_mem hi)
/-- The row of what is there. -/
structure HRow (w : World) (g c : Nat) (H : List Bool) : Prop where
  o : Own w 0 4 (.slice (some ⟨g, 0, none⟩) H.length c) (H.map .bool)
theorem HRow.lt {w : World} {g c : Nat} {H : List Bool} (h : HRow w g c H) : g < w.heap.size := (h.o.o.lt g rfl).2
theorem HRow.cell {w : World} {g c : Nat} {H : List Bool} (h : HRow w g c H) {i : Nat} (hi : i < H.length) : w.cell? ⟨g, i, none⟩ = some (.bool (H.getD i false)) := by
  rw [h.o.cell (by simpa using hi)]
  simp [List.getD_eq_getElem?_getD, List.getElem?_eq_getElem hi]
theorem HRow.frozen {w : World} {g c : Nat} {H : List Bool} (h : HRow w g c H) (i : Nat) : w.frozen? ⟨g, i, none⟩ = false := h.o.frozen i
theorem HRow.set {w : World} {g c : Nat} {H : List Bool} (h : HRow w g c H) (i : Nat) : HRow (w.setCell ⟨g, i, none⟩ (.bool true)) g c (H.set i true) := by
  refine ⟨?_⟩
  rw [List.length_set, List.map_set]
  exact h.o.set i _
theorem HRow.heap {w w' : World} {g c : Nat} {H : List Bool} (h : HRow w g c H) (e : w'.heap[g]? = w.heap[g]?) : HRow w' g c H := by
  refine ⟨⟨h.o.o.1, ?_⟩⟩
  rcases h.o.o.2 with h1 | ⟨g', cap, cur, h1, h2, h3, h4⟩
  · exact .inl h1
  · simp only [Value.slice.injEq, Option.some.injEq, Addr.mk.injEq] at h1
    obtain ⟨⟨rfl, _⟩, h1, rfl⟩ := h1
    exact .inr ⟨g, c, cur, by rw [h1], h2, by rw [e]; exact h3, h4⟩
theorem Tryd.infoBool : (Tryd.prog.info? 4).map (fun i => (i.zero, i.size, i.bytes)) = some (some (.bool false), 1, 1) := by kernel_rfl
theorem HRow.make_run (w : World) (n : Nat) (hn : n ≤ 1000) :
    ∃ w', (Instr.makeSlice 73 (.int .i64 (n : Int)) (.int .i64 (n : Int))).run Tryd.prog w = .ok (.slice (some ⟨w.heap.size, 0, none⟩) n n) w' ∧ HRow w' w.heap.size n (List.replicate n false) ∧ Below w.heap.size w w' := by
  obtain ⟨i0, hi, hz0, hz1, hz2⟩ := info_parts Tryd.infoBool
  obtain ⟨w', h1, h2, h3⟩ := Own.make_run (P := Tryd.prog) (T := 73) Tryd.underlying73 hi hz0 hz1 hz2 rfl w n (by omega) (by omega)
  refine ⟨w', h1, ⟨?_⟩, h3⟩
  rw [List.length_replicate, List.map_replicate]
  exact h2.mono (Nat.zero_le _)
/-- A geometry that is written. -/
theorem geo_put {w : World} {b : Nat} {a0 a1 a2 : Value} (h0 : w.cell? ⟨b, 0, none⟩ = some a0) (h1 : w.cell? ⟨b, 1, none⟩ = some a1) (h2 : w.cell? ⟨b, 2, none⟩ = some a2) (hb : b < w.heap.size) (K M B : Int) :
    GBx (((w.setCell ⟨b, 0, none⟩ (.int .i64 K)).setCell ⟨b, 1, none⟩ (.int .i64 M)).setCell ⟨b, 2, none⟩ (.int .i64 B)) b K M B := by
  refine ⟨?_, ?_, ?_, by simpa using hb⟩
  · rw [World.cell?_setCell_other _ _ _ _ (by simp), World.cell?_setCell_other _ _ _ _ (by simp)]; exact World.cell?_setCell_same' _ _ _ (by rw [h0]; rfl)
  · rw [World.cell?_setCell_other _ _ _ _ (by simp)]; exact World.cell?_setCell_same' _ _ _ (by rw [World.cell?_setCell_other _ _ _ _ (by simp), h1]; rfl)
  · exact World.cell?_setCell_same' _ _ _ (by rw [World.cell?_setCell_other _ _ _ _ (by simp), World.cell?_setCell_other _ _ _ _ (by simp), h2]; rfl)
theorem geo_heap (w : World) (b : Nat) (u0 u1 u2 : Value) {k : Nat} (hk : k ≠ b) : (((w.setCell ⟨b, 0, none⟩ u0).setCell ⟨b, 1, none⟩ u1).setCell ⟨b, 2, none⟩ u2).heap[k]? = w.heap[k]? := by
  rw [Below.heap_setCell _ _ _ _ hk, Below.heap_setCell _ _ _ _ hk, Below.heap_setCell _ _ _ _ hk]
theorem res_fit {tm : Array Value} {W : World} {b c : Nat} {K M B q : Int} {v : Value} (g : GBx W b K M B) (h : RBx W c q v) (h2 : tm.getD 2 undef = .pointer (some ⟨b, 0, none⟩)) (h3 : tm.getD 3 undef = .pointer (some ⟨c, 0, none⟩)) :
    (results Tryd.f21 tm).run Tryd.prog W = .ok (.tuple #[.agg #[.int .i64 K, .int .i64 M, .int .i64 B], .agg #[.int .i64 q, v]]) W := by
  have h2' : tm[2]?.getD undef = .pointer (some ⟨b, 0, none⟩) := by simpa using h2
  have h3' : tm[3]?.getD undef = .pointer (some ⟨c, 0, none⟩) := by simpa using h3
  simp [results, Tryd.results21, go_sem, h2', h3', g.c0, g.c1, g.c2, h.c0, h.c1]
/-- All that holds within a stripe. -/
structure JB (w : World) (p g : Nat) (r : Raw) (vs vl : Value) (hb n : Nat) (HH : List Bool) (x : Nat) (q : Int) (v : Value) (l : List St) (y : Nat) (s : Int) (u : Value) (dd : List ByteArray) (wr : World) : Prop where
  F : FB w p g r vs vl wr
  R : HRow wr hb n HH
  O : RBx wr x q v
  f : SFam wr (x + 1) v l
  s : RBx wr y s u
  d : Own wr (y + 1) 9 u (dd.map .string)
theorem JB.drewN {w wr : World} {p g : Nat} {r : Raw} {vs vl : Value} {hb n : Nat} {HH : List Bool} {x : Nat} {q : Int} {v : Value} {l : List St} {y : Nat} {s : Int} {u : Value} {dd : List ByteArray} (h : JB w p g r vs vl hb n HH x q v l y s u dd wr) (k : Nat) : JB w p g r vs vl hb n HH x q v l y s u dd (wr.drewN k) :=
  ⟨h.F.below (drew_below wr k), h.R.heap rfl, h.O.heap rfl (Nat.le_refl _), h.f.heap fun _ _ _ => rfl, h.s.heap rfl (Nat.le_refl _), h.d.after (drew_below wr k)⟩
set_option maxRecDepth 100000 in
set_option maxHeartbeats 4000000 in
theorem fit11_any (r : Raw) (vs vl : Value) (w : World) (hok : RawOk r) (hst : Reads w vs (r.st.map (.int .i64))) (hle : Reads w vl (r.le.map (.int .i64))) :
    Calls Tryd.prog 21 #[r.v vs vl] w (GivesF w r) := by
  obtain ⟨p, hp⟩ : ∃ p, w.heap.size = p := ⟨_, rfl⟩
  have hrn := raw_n r
  obtain ⟨sa, sc, hvs⟩ := hst.isSlice
  obtain ⟨la, lc, hvl⟩ := hle.isSlice
  rw [List.length_map] at hvs hvl
  subst hvs
  subst hvl
  unfold Raw.v
  go_enter Tryd.func21, Tryd.ntmps21
  go_wp2_with (fail)
  have cF := fun W => fit7_any r.k r.m r.b W hok.k.1 hok.k.2 hok.m.1 hok.m.2 hok.b.1 hok.b.2
  have hL1 := heap_alloc_new w (.cells #[.int .i64 r.k, .int .i64 r.m, .int .i64 r.b, .int .i64 r.q, .slice sa r.st.length sc, .slice la r.le.length lc] 42)
  have hB1 : Below p w (w.alloc (.cells #[.int .i64 r.k, .int .i64 r.m, .int .i64 r.b, .int .i64 r.q, .slice sa r.st.length sc, .slice la r.le.length lc] 42)) := (Below.refl _ _).alloc (by omega) _
  have hc0 : ∀ o, (w.alloc (.cells #[.int .i64 r.k, .int .i64 r.m, .int .i64 r.b, .int .i64 r.q, .slice sa r.st.length sc, .slice la r.le.length lc] 42)).cell? ⟨p, o, none⟩ = #[.int .i64 r.k, .int .i64 r.m, .int .i64 r.b, .int .i64 r.q, .slice sa r.st.length sc, .slice la r.le.length lc][o]? := fun o => by rw [← hp, World.cell?_alloc_mark]
  have hsz1 : (w.alloc (.cells #[.int .i64 r.k, .int .i64 r.m, .int .i64 r.b, .int .i64 r.q, .slice sa r.st.length sc, .slice la r.le.length lc] 42)).heap.size = p + 1 := by simp [hp]
  generalize w.alloc (.cells #[.int .i64 r.k, .int .i64 r.m, .int .i64 r.b, .int .i64 r.q, .slice sa r.st.length sc, .slice la r.le.length lc] 42) = wa at *
  have hB2 : Below (p + 1) wa (wa.alloc (.cells #[.int .i64 0, .int .i64 0, .int .i64 0] 23)) := (Below.refl _ _).alloc (by omega) _
  have hz0 : ∀ o, (wa.alloc (.cells #[.int .i64 0, .int .i64 0, .int .i64 0] 23)).cell? ⟨p + 1, o, none⟩ = #[.int .i64 0, .int .i64 0, .int .i64 0][o]? := fun o => by rw [← hsz1, World.cell?_alloc_mark]
  have hf0 : ∀ o, (wa.alloc (.cells #[.int .i64 0, .int .i64 0, .int .i64 0] 23)).frozen? ⟨p + 1, o, none⟩ = false := fun o => by rw [← hsz1]; exact frozen_of_row _ _ _ _ _ (heap_alloc_new _ _)
  have hsz2 : (wa.alloc (.cells #[.int .i64 0, .int .i64 0, .int .i64 0] 23)).heap.size = p + 1 + 1 := by simp [hsz1]
  generalize wa.alloc (.cells #[.int .i64 0, .int .i64 0, .int .i64 0] 23) = wb at *
  have hB3 : Below (p + 1 + 1) wb (wb.alloc (.cells #[.int .i64 0, .slice none 0 0] 26)) := (Below.refl _ _).alloc (by omega) _
  have Y := RBx.made wb 0 (.slice none 0 0) 26
  rw [hsz2] at Y
  have hsz3 : (wb.alloc (.cells #[.int .i64 0, .slice none 0 0] 26)).heap.size = p + 1 + 1 + 1 := by simp [hsz2]
  generalize wb.alloc (.cells #[.int .i64 0, .slice none 0 0] 26) = wc at *
  refine (cF _).mono ?_
  rintro e wd ⟨rfl, b4⟩
  have hsz4 : p + 3 ≤ wd.heap.size := by have := b4.size; omega
  have B4 : Below p w wd := ((hB1.trans (hB2.mono (by omega))).trans (hB3.mono (by omega))).trans (b4.mono (by omega))
  have G := GBx.made wd (fK r.k) (fM r.m) (fB r.b) 23
  have bb : Below wd.heap.size wd (wd.alloc (.cells #[.int .i64 (fK r.k), .int .i64 (fM r.m), .int .i64 (fB r.b)] 23)) := (Below.refl _ _).alloc (Nat.le_refl _) _
  obtain ⟨g, hg⟩ : ∃ g, wd.heap.size = g := ⟨_, rfl⟩
  have hF : FB w p g r (.slice sa r.st.length sc) (.slice la r.le.length lc) (wd.alloc (.cells #[.int .i64 (fK r.k), .int .i64 (fM r.m), .int .i64 (fB r.b)] 23)) := by
    have hA : Below (p + 1) wa wd := (hB2.trans (hB3.mono (by omega))).trans (b4.mono (by omega))
    have hA' := hA.trans (bb.mono (by omega))
    have hBB : Below (p + 1 + 1) wb (wd.alloc (.cells #[.int .i64 (fK r.k), .int .i64 (fM r.m), .int .i64 (fB r.b)] 23)) := (hB3.trans (b4.mono (by omega))).trans (bb.mono (by omega))
    have q : ∀ o, (wd.alloc (.cells #[.int .i64 (fK r.k), .int .i64 (fM r.m), .int .i64 (fB r.b)] 23)).cell? ⟨p, o, none⟩ = _ := fun o => (hA'.cell (p := ⟨p, o, none⟩) (show p < p + 1 by omega)).trans (hc0 o)
    have q2 : ∀ o, (wd.alloc (.cells #[.int .i64 (fK r.k), .int .i64 (fM r.m), .int .i64 (fB r.b)] 23)).cell? ⟨p + 1, o, none⟩ = _ := fun o => (hBB.cell (p := ⟨p + 1, o, none⟩) (show p + 1 < p + 1 + 1 by omega)).trans (hz0 o)
    have q3 : ∀ o, (wd.alloc (.cells #[.int .i64 (fK r.k), .int .i64 (fM r.m), .int .i64 (fB r.b)] 23)).frozen? ⟨p + 1, o, none⟩ = false := fun o => (hBB.frozen (p := ⟨p + 1, o, none⟩) (show p + 1 < p + 1 + 1 by omega)).trans (hf0 o)
    exact ⟨q 0, q 1, q 2, q 3, q 4, q 5, q2 0, q2 1, q2 2, q3 0, q3 1, q3 2, (Y.below b4 Y.lt).below bb (by have := b4.size; have := Y.lt; omega), by rw [← hg]; exact G, by omega, B4.trans (bb.mono (by omega))⟩
  clear hL1 hB1 hc0 hsz1 hB2 hz0 hf0 hsz2 hB3 Y hsz3 b4 B4 G bb cF hsz4
  have e0 := hF.gb.c0
  have e1 := hF.gb.c1
  have e2 := hF.gb.c2
  have cS := fun W => rstripes_any (fK r.k) (fM r.m) (fB r.b) W
  rw [← hrn.1] at cS
  go_wp2_with (fail)
  clear e0 e1 e2
  generalize wd.alloc (.cells #[.int .i64 (fK r.k), .int .i64 (fM r.m), .int .i64 (fB r.b)] 23) = we at *
  clear hg
  refine (cS _).mono ?_
  rintro e w0 ⟨rfl, b0⟩
  replace hF := hF.below b0
  clear b0 cS
  obtain ⟨w1, hmk, hR, b1⟩ := HRow.make_run w0 r.n (by omega)
  obtain ⟨hb, hhb⟩ : ∃ hb, w0.heap.size = hb := ⟨_, rfl⟩
  rw [hhb] at hmk hR
  have hgb : g < hb := by have := hF.gb.lt; omega
  have hF1 := hF.below b1
  clear hF b1
  replace hp := Lib.hid hp
  have hc := hrn
  obtain ⟨n1, n2, n3, k1, k2, k3⟩ := hrn
  have hI0 : Hid (FB w p g r (.slice sa r.st.length sc) (.slice la r.le.length lc) w1 ∧ HRow w1 hb r.n (List.replicate r.n false)) := Lib.hid ⟨hF1, hR⟩
  have hst' := Lib.hid hst
  have hle' := Lib.hid hle
  have hok' := Lib.hid hok
  clear hF1 hR hst hle hok hhb
  replace n1 := Lib.hid n1
  replace k1 := Lib.hid k1
  clear hc
  have hal := Lib.hid (all_ok (n := r.n) (by omega) r.st)
  have hpkn : Hid (∀ c, 0 ≤ pk c (r.n : Int) ∧ pk c (r.n : Int) < (r.n : Int)) := Lib.hid fun c => pk_rng c _ (by omega)
  obtain ⟨n, hn⟩ : ∃ n, r.n = n := ⟨_, rfl⟩
  rw [hn] at n2 n3 hmk ⊢
  replace hn := Lib.hid hn
  go_wp2_with (fail)
  clear hmk
  go_loopw [7, 8] (fun m t wr => ∃ (k many : Nat) (H : List Bool), k ≤ r.st.length ∧ m = .int .i64 (many : Int) ∧ t = .int .i64 (k : Int) ∧ FB w p g r (.slice sa r.st.length sc) (.slice la r.le.length lc) wr ∧ HRow wr hb n H ∧ hasRun r.n (r.st.drop k) (H, many) = hasRun r.n r.st (has0 r.n) ∧ HasOk r.n (H, many)) (fun _ t _ => r.st.length - (intOf t).toNat)
  case atStart => exact ⟨0, 0, _, by omega, rfl, rfl, hI0.out.1, by rw [hn.out]; exact (by have := hI0.out.2; rw [hn.out] at this; exact this), rfl, has0_ok _⟩
  case round =>
    obtain ⟨k, many, H, hk, rfl, rfl, F0, R0, hrun, hHok⟩ := hrel
    rename World => wr
    clear hI0
    have hHl : H.length = n := by rw [← hn.out]; exact hHok.l
    by_cases hlt : k < r.st.length ∧ many < 16
    · have y1 : (k : Int) < (r.st.length : Int) := by omega
      have y2 : (many : Int) < 16 := by omega
      have hkl : k < r.st.length := hlt.1
      have hkl2 := Lib.hid hlt.1
      have hsn2 := hok'.out.sn
      have hst0 := hst'.out.below (by rw [hp.out]; exact F0.b)
      obtain ⟨b1, o1, rfl, hc1⟩ : ∃ b1 o1, sa = some ⟨b1, o1, none⟩ ∧ wr.cell? ⟨b1, o1 + k, none⟩ = some (.int .i64 r.st[k]) := by
        rcases hst0 with ⟨_, h0⟩ | ⟨b', off', cap', h1, h2, h3⟩
        · have : r.st.length = 0 := by have := congrArg List.length h0; simpa using this
          omega
        · simp only [Value.slice.injEq] at h1
          refine ⟨b', off', h1.1, ?_⟩
          rw [h3 k (by rw [List.length_map]; exact hkl)]
          rw [List.getD_eq_getElem?_getD, List.getElem?_map, List.getElem?_eq_getElem hkl]; rfl
      have hcr := hok'.out.st _ (List.getElem_mem hkl)
      have hp1 := hpkn.out r.st[k]
      have hrun2 : hasRun r.n (r.st.drop (k + 1)) (hasStep r.n (H, many) r.st[k]) = hasRun r.n r.st (has0 r.n) := by
        rw [← hrun, List.drop_eq_getElem_cons hkl]
        show _ = hasRun r.n (r.st[k] :: r.st.drop (k + 1)) (H, many)
        unfold hasRun
        rw [if_pos hlt.2]
        cases h : r.st.drop (k + 1) <;> rfl
      have hok2 := step_ok hHok (by rw [hn.out]; omega) hlt.2 r.st[k]
      unfold hasStep at hrun2 hok2
      rw [hn.out] at hp1 hrun2 hok2
      obtain ⟨s, hs⟩ := Int.eq_ofNat_of_zero_le hp1.1
      have cP := fun W => pick11_any r.st[k] (n : Int) W hcr.1 hcr.2 (by omega) (by omega)
      rw [hs] at hp1 hrun2 hok2 cP
      simp only [Int.toNat_natCast] at hrun2 hok2
      have hsn : s < n := by omega
      have ch := R0.cell (i := s) (by omega)
      have cf := R0.frozen s
      have hR2 := R0.set s
      replace hrun2 := Lib.hid hrun2
      replace hok2 := Lib.hid hok2
      replace hrun := Lib.hid hrun
      replace hs := Lib.hid hs
      have e4 := F0.a4
      have hF2 := Lib.hid (F0.set (c := hb) hgb s (.bool true))
      replace hR2 := Lib.hid hR2
      clear hcr hst0 hHok hp1 hlt
      cases hv : H.getD s false with
      | true =>
        rw [hv] at hrun2 hok2 ch
        simp only [if_true] at hrun2 hok2
        clear hv
        go_wp2_with (fail)
        refine (cP _).mono ?_
        rintro e w' ⟨rfl, rfl⟩
        go_wp2_with (fail)
        go_roundw
        case rel => exact ⟨k + 1, many, H.set s true, by have := hkl2.out; omega, rfl, by go_num, hF2.out, hR2.out, by rw [hn.out]; exact hrun2.out, by rw [hn.out]; exact hok2.out⟩
        case measure => have := hkl2.out; simp [intOf]; omega
      | false =>
        rw [hv] at hrun2 hok2 ch
        simp only [Bool.false_eq_true, if_false] at hrun2 hok2
        clear hv
        go_wp2_with (fail)
        refine (cP _).mono ?_
        rintro e w' ⟨rfl, rfl⟩
        go_wp2_with (fail)
        go_roundw
        case rel => exact ⟨k + 1, many + 1, H.set s true, by have := hkl2.out; omega, by go_num, by go_num, hF2.out, hR2.out, by rw [hn.out]; exact hrun2.out, by rw [hn.out]; exact hok2.out⟩
        case measure => have := hkl2.out; simp [intOf]; omega
    · have hcase : (¬ (k : Int) < (r.st.length : Int)) ∨ ((k : Int) < (r.st.length : Int) ∧ ¬ (many : Int) < 16) := by omega
      have hend : hasRun r.n r.st (has0 r.n) = (H, many) := by
        rw [← hrun]
        rcases Nat.lt_or_ge k r.st.length with h1 | h1
        · rw [List.drop_eq_getElem_cons h1, hasRun, if_neg (by show ¬ many < 16; omega)]
        · rw [List.drop_of_length_le h1, hasRun]
      have hfin : hasAll r.n r.st = if many = 0 then H.set 0 true else H := by unfold hasAll; rw [hend]
      have ch := R0.cell (i := 0) (by omega)
      have cf := R0.frozen 0
      have hR2 := R0.set 0
      have hF2 := F0.set (c := hb) hgb 0 (.bool true)
      have hW : Hid (∃ wx, wx = (if many = 0 then wr.setCell ⟨hb, 0, none⟩ (.bool true) else wr) ∧ FB w p g r (.slice sa r.st.length sc) (.slice la r.le.length lc) wx ∧ HRow wx hb n (hasAll r.n r.st)) := Lib.hid (by
        rw [hfin]
        by_cases h0 : many = 0
        · rw [if_pos h0, if_pos h0]; exact ⟨_, rfl, hF2, hR2⟩
        · rw [if_neg h0, if_neg h0]; exact ⟨_, rfl, F0, R0⟩)
      have e4 := F0.a4
      clear hfin hend hrun hHok hlt hR2 hF2 F0 R0
      rcases hcase with y1 | ⟨y1, y2⟩
      all_goals
        go_upto_if 52 with (fail)
        go_cut [] from 52 to 54 (fun wx => FB w p g r (.slice sa r.st.length sc) (.slice la r.le.length lc) wx ∧ HRow wx hb n (hasAll r.n r.st))
        case first =>
          obtain ⟨wx, hwx, hWF, hWR⟩ := hW.out
          by_cases h0 : many = 0
          · rw [if_pos h0] at hwx
            have h1 : ((many : Int) == 0) = true := by rw [h0]; rfl
            replace hwx := Lib.hid hwx
            first
              | (exfalso; omega)
              | (replace h0 := Lib.hid h0
                 go_wp2_with (fail)
                 go_meet
                 rw [← hwx.out]
                 exact ⟨hWF, hWR⟩)
          · rw [if_neg h0] at hwx
            have h1 : ((many : Int) == 0) = false := by rw [beq_eq_false_iff_ne]; omega
            replace hwx := Lib.hid hwx
            replace h0 := Lib.hid h0
            go_wp2_with (fail)
            go_meet
            rw [← hwx.out]
            exact ⟨hWF, hWR⟩
        case rest =>
        obtain ⟨F0, R0⟩ := hcut
        rename World => wy
        have hq := pk_rng r.q 1099511627776 (by decide)
        have hqo := hok'.out.q
        have hH := hal.out
        have hSt : Hid (fitS r = strTo (hasAll r.n r.st) r.kk r.le r.n) := Lib.hid rfl
        generalize hasAll r.n r.st = HH at *
        rw [hn.out] at hH hSt
        have hHl2 := hH.1
        have hQ : Hid (fitQ r = 1 + pk r.q 1099511627776) := Lib.hid rfl
        have cP := fun W => pick11_any r.q 1099511627776 W hqo.1 hqo.2 (by decide) (by decide)
        have hcnt := Lib.hid hH.2
        clear hqo hH
        generalize pk r.q 1099511627776 = pq at *
        clear ch cf hW hal e4
        have e3 := F0.a3
        go_wp2_with (fail)
        refine (cP _).mono ?_
        rintro e w' ⟨rfl, rfl⟩
        clear cP
        obtain ⟨x, hx⟩ : ∃ x, wy.heap.size = x := ⟨_, rfl⟩
        have hbx : hb < x := by have := R0.lt; omega
        have X := RBx.made wy (1 + pq) (.slice none 0 0) 26
        have bb : Below wy.heap.size wy (wy.alloc (.cells #[.int .i64 (1 + pq), .slice none 0 0] 26)) := (Below.refl _ _).alloc (Nat.le_refl _) _
        have F1 := F0.below bb
        have R1 := R0.heap (bb.block hb (by omega))
        rw [hx] at X
        clear F0 R0 bb e3
        go_wp2_with (fail)
        replace hx := Lib.hid hx
        generalize wy.alloc (.cells #[.int .i64 (1 + pq), .slice none 0 0] 26) = wz at *
        have hI1 : Hid (FB w p g r (.slice sa r.st.length sc) (.slice la r.le.length lc) wz ∧ HRow wz hb n HH ∧ RBx wz x (1 + pq) (.slice none 0 0)) := Lib.hid ⟨F1, R1, X⟩
        clear F1 R1 X
        go_loopw [11, 12] (fun kx t wr => ∃ (s : Nat) (v : Value) (l : List St), s ≤ n ∧ t = .int .i64 (s : Int) ∧ kx = .int .i64 ((l.length * r.kk : Nat) : Int) ∧ FB w p g r (.slice sa r.st.length sc) (.slice la r.le.length lc) wr ∧ HRow wr hb n HH ∧ RBx wr x (1 + pq) v ∧ SFam wr (x + 1) v l ∧ l.map pr = strTo HH r.kk r.le s) (fun _ t _ => n - (intOf t).toNat)
        case atStart => exact ⟨0, _, [], by omega, rfl, by simp, hI1.out.1, hI1.out.2.1, hI1.out.2.2, SFam.nil _ _, rfl⟩
        case round =>
          obtain ⟨s, v, l, hs, rfl, rfl, F0, R0, O0, f0, hl⟩ := hrel
          rename World => wr
          clear hI1
          have hll : l.length ≤ 16 := by
            have h1 := congrArg List.length hl
            rw [List.length_map, strTo_len _ _ _ _ (by omega)] at h1
            have h2 : (HH.take s).count true ≤ HH.count true := (List.take_sublist s HH).count_le true
            have := hcnt.out.2
            omega
          obtain ⟨va, vc, ev⟩ := f0.o.isSlice
          subst ev
          have hmk : l.length * r.kk ≤ 64 := by have := Nat.mul_le_mul hll k3; omega
          by_cases hlt : s < n
          · have y3 : (s : Int) < (n : Int) := by omega
            have ch := R0.cell (i := s) (by omega)
            cases hv : HH.getD s false with
            | false =>
              have hl2 : Hid (l.map pr = strTo HH r.kk r.le (s + 1)) := Lib.hid (by rw [hl, strTo, hv]; simp)
              rw [hv] at ch
              clear hv hl
              go_wp2_with (fail)
              go_roundw
              case rel => exact ⟨s + 1, _, l, by omega, by go_num, rfl, F0, R0, O0, f0, hl2.out⟩
              case measure => simp [intOf]; omega
            | true =>
              have hl2 : Hid (∀ u, (l ++ [(⟨(s : Int), dataTo r.le (l.length * r.kk) r.kk, u⟩ : St)]).map pr = strTo HH r.kk r.le (s + 1)) := Lib.hid fun u => by
                rw [strTo, hv, if_pos rfl, ← hl, List.map_append, List.length_map]; rfl
              rw [hv] at ch
              replace hl := Lib.hid hl
              clear hv
              generalize hK0 : l.length * r.kk = k0 at *
              replace hK0 := Lib.hid hK0
              obtain ⟨y, hy⟩ : ∃ y, wr.heap.size = y := ⟨_, rfl⟩
              have hxy : x < y := by have := O0.lt; omega
              have S5 := RBx.made wr (s : Int) (.slice none 0 0) 52
              have bb : Below wr.heap.size wr (wr.alloc (.cells #[.int .i64 (s : Int), .slice none 0 0] 52)) := (Below.refl _ _).alloc (Nat.le_refl _) _
              rw [hy] at S5
              have hF0 : Hid (SFam wr (x + 1) (.slice va l.length vc) l) := Lib.hid f0
              have hI2 : Hid (FB w p g r (.slice sa r.st.length sc) (.slice la r.le.length lc) (wr.alloc (.cells #[.int .i64 (s : Int), .slice none 0 0] 52)) ∧ HRow (wr.alloc (.cells #[.int .i64 (s : Int), .slice none 0 0] 52)) hb n HH ∧ RBx (wr.alloc (.cells #[.int .i64 (s : Int), .slice none 0 0] 52)) x (1 + pq) (.slice va l.length vc) ∧ SFam (wr.alloc (.cells #[.int .i64 (s : Int), .slice none 0 0] 52)) (x + 1) (.slice va l.length vc) l ∧ RBx (wr.alloc (.cells #[.int .i64 (s : Int), .slice none 0 0] 52)) y (s : Int) (.slice none 0 0)) :=
                Lib.hid ⟨F0.below bb, R0.heap (bb.block hb (by omega)), O0.below bb O0.lt, f0.after bb, S5⟩
              clear F0 R0 O0 f0 S5 bb
              go_wp2_with (fail)
              replace hy := Lib.hid hy
              generalize wr.alloc (.cells #[.int .i64 (s : Int), .slice none 0 0] 52) = w2 at *
              go_loopw [11, 14] (fun kx t wr => ∃ (j : Nat) (u : Value), j ≤ r.kk ∧ t = .int .i64 (j : Int) ∧ kx = .int .i64 ((k0 + j : Nat) : Int) ∧ FB w p g r (.slice sa r.st.length sc) (.slice la r.le.length lc) wr ∧ HRow wr hb n HH ∧ RBx wr x (1 + pq) (.slice va l.length vc) ∧ SFam wr (x + 1) (.slice va l.length vc) l ∧ RBx wr y (s : Int) u ∧ Own wr (y + 1) 9 u ((dataTo r.le k0 j).map .string)) (fun _ t _ => r.kk - (intOf t).toNat)
              case atStart => exact ⟨0, _, by omega, rfl, by simp, hI2.out.1, hI2.out.2.1, hI2.out.2.2.1, hI2.out.2.2.2.1, hI2.out.2.2.2.2, Own.nil _ _ _⟩
              case round =>
                obtain ⟨j, u, hj, rfl, rfl, F0, R0, O0, f0, s0, d0⟩ := hrel
                rename World => wr
                clear hI2
                obtain ⟨ua, uc, ev⟩ := d0.isSlice
                rw [List.length_map, dataTo_len] at ev
                subst ev
                have e0 := F0.gb.c0
                rw [← k1.out] at e0
                by_cases hjm : j < r.kk
                · have y4 : (j : Int) < (r.kk : Int) := by omega
                  have hLr := letter_rng hok'.out (k0 + j) (by omega)
                  have cB := fun W => block_any (letter r.le (k0 + j)) W hLr.1 hLr.2
                  have hds := Lib.hid (dataTo_succ r.le k0 j)
                  have e5 := F0.a5
                  have J0 : JB w p g r (.slice sa r.st.length sc) (.slice la r.le.length lc) hb n HH x (1 + pq) (.slice va l.length vc) l y (s : Int) (.slice ua j uc) (dataTo r.le k0 j) wr := ⟨F0, R0, O0, f0, s0, d0⟩
                  by_cases hL0 : r.le.length = 0
                  · have hle1 : letter r.le (k0 + j) = (k0 : Int) + (j : Int) := by unfold letter; rw [if_pos hL0]; simp
                    have y6 : ¬ ((r.le.length : Int) > 0) := by omega
                    have y7 : decide (0 < r.le.length) = false := by rw [decide_eq_false_iff_not]; omega
                    rw [hle1] at cB
                    clear hLr
                    replace hle1 := Lib.hid hle1
                    replace hL0 := Lib.hid hL0
                    have J1 := J0.drewN 1
                    rw [show wr.drewN 1 = wr.drew from rfl] at J1
                    have hlv := hle1
                    obtain ⟨i0, hi, hz0, hz1, hz2⟩ := info_parts Tryd.infoT
                    have hgl := J1.F.gb.lt
                    have hrl := J1.R.lt
                    have hol := J1.O.lt
                    have hsl := J1.s.lt
                    have cs1 := J1.s.c1
                    clear F0 R0 O0 f0 s0 d0 J0
                    go_wp2_with (fail)
                    go_region_law (first
                      | (refine step_append_run hap _ _ rfl rfl rfl (by simp [Act.eval, Act.put]) (by simp [Act.eval, Act.put]) ?_)
                      | (go_simp; go_at_call 23
                         refine (cB _).mono ?_
                         rintro e w6 ⟨rfl, b6⟩
                         have dm := J1.d.after b6
                         obtain ⟨v', w7, hap, d7, b7, k7, v7⟩ := dm.pushA (P := Tryd.prog) (T := 27) Tryd.underlying27 hi hz0 hz1 hz2 rfl (.string (blockS ((k0 : Int) + (j : Int)))) rfl (by have := b6.size; omega) (by simp [dataTo_len]; omega) (by simp [dataTo_len]; omega)
                         obtain ⟨ua', uc', ev⟩ := d7.isSlice
                         rw [List.length_append, List.length_map, dataTo_len, List.length_singleton] at ev
                         subst ev
                         have sm := J1.s.below b6 hsl
                         have csm := sm.c1
                         have csa := cell_alloc_l (.cells #[.string (blockS ((k0 : Int) + (j : Int)))] 9) csm
                         have s7 : RBx w7 y (s : Int) (.slice ua j uc) := sm.heap (k7 y sm.lt (fun e => by have := (dm.o.lt y e).1; omega)) b7.size
                         have cs7 := s7.c1
                         have ds7 := s7.f1
                         have eh : Hid (∀ i, i < wr.drew.heap.size → i < y → (w7.setCell ⟨y, 1, none⟩ (.slice ua' (j + 1) uc')).heap[i]? = wr.drew.heap[i]?) := Lib.hid fun i h1 h2 => by
                           rw [Below.heap_setCell _ _ _ _ (by show i ≠ y; omega), ← b6.block i h1]
                           exact k7 i (by have := b6.size; omega) (fun e => by have := (dm.o.lt i e).1; omega)
                         have hsz : Hid (wr.drew.heap.size ≤ (w7.setCell ⟨y, 1, none⟩ (.slice ua' (j + 1) uc')).heap.size) := Lib.hid (by have := b7.size; have := b6.size; rw [World.size_setCell]; omega)
                         have hbb : Hid (Below p w (w7.setCell ⟨y, 1, none⟩ (.slice ua' (j + 1) uc'))) := Lib.hid (((J1.F.b.trans (b6.mono (by have := J1.F.hg; omega))).trans (b7.mono (by have := J1.F.hg; omega))).setCell (p := ⟨y, 1, none⟩) (by have := J1.F.hg; show p ≤ y; omega) _)
                         replace s7 := Lib.hid s7
                         replace d7 := Lib.hid d7
                         replace sm := Lib.hid sm
                         clear dm v7 b6))
                    all_goals
                      go_wp2_with (fail)
                      go_roundw
                      case rel =>
                        refine ⟨j + 1, .slice ua' (j + 1) uc', by omega, by go_num, by go_num, ?_, ?_, ?_, ?_, s7.out.set1 _, ?_⟩
                        · exact J1.F.to (fun i h1 h2 => eh.out i h1 (by omega)) hsz.out hbb.out
                        · exact J1.R.heap (eh.out _ hrl (by omega))
                        · exact J1.O.heap (eh.out _ hol (by omega)) hsz.out
                        · exact J1.f.heapO fun u hu i hi => eh.out i (J1.f.old u hu i hi).2 (by have := (hF0.out.old u hu i hi).2; have := hy.out; omega)
                        · have := d7.out.setOther (a := ⟨y, 1, none⟩) (fun e => by have := (d7.out.o.lt y e).1; omega) (.slice ua' (j + 1) uc')
                          rw [hds.out, List.map_append, hlv.out]
                          exact this
                      case measure => simp [intOf]; omega
                  · have hc0 : (k0 + j) % r.le.length < r.le.length := Nat.mod_lt _ (by omega)
                    have hle1 : letter r.le (k0 + j) = r.le.getD ((k0 + j) % r.le.length) 0 := by unfold letter; rw [if_neg hL0]
                    have y6 : (r.le.length : Int) > 0 := by omega
                    have y7 : decide (0 < r.le.length) = true := by rw [decide_eq_true_iff]; omega
                    have y8 : ((k0 : Int) + (j : Int)) % (r.le.length : Int) = (((k0 + j) % r.le.length : Nat) : Int) := by simp
                    have hln := hok'.out.ln
                    obtain ⟨C, hC⟩ : ∃ C, (k0 + j) % r.le.length = C := ⟨_, rfl⟩
                    rw [hC] at hc0 hle1 y8
                    replace hC := Lib.hid hC
                    obtain ⟨lv, hlvv⟩ : ∃ lv, r.le.getD C 0 = lv := ⟨_, rfl⟩
                    have hr2 := hle'.out.below (by rw [hp.out]; exact F0.b)
                    obtain ⟨b2, o2, rfl, hc2⟩ : ∃ b2 o2, la = some ⟨b2, o2, none⟩ ∧ wr.cell? ⟨b2, o2 + C, none⟩ = some (.int .i64 lv) := by
                      rcases hr2 with ⟨_, h0⟩ | ⟨b', off', cap', h1, h2, h3⟩
                      · exact absurd (by have := congrArg List.length h0; simpa using this) hL0
                      · simp only [Value.slice.injEq] at h1
                        refine ⟨b', off', h1.1, ?_⟩
                        rw [h3 C (by rw [List.length_map]; exact hc0), ← hlvv]
                        rw [List.getD_eq_getElem?_getD, List.getElem?_map, List.getElem?_eq_getElem hc0, List.getD_eq_getElem?_getD, List.getElem?_eq_getElem hc0]; rfl
                    rw [hlvv] at hle1
                    rw [hle1] at cB
                    have y9 : ¬ r.le.length = 0 := hL0
                    clear hLr hr2 hlvv
                    replace hle1 := Lib.hid hle1
                    clear F0 R0 O0 f0 s0 d0 hL0
                    go_wp2_with (fail)
                    go_quiet (fail)
                    replace J0 := J0.drewN nq
                    generalize wr.drewN nq = w3 at *
                    have J1 := J0.drewN 1
                    rw [show w3.drewN 1 = w3.drew from rfl] at J1
                    have hlv := hle1
                    obtain ⟨i0, hi, hz0, hz1, hz2⟩ := info_parts Tryd.infoT
                    have hgl := J1.F.gb.lt
                    have hrl := J1.R.lt
                    have hol := J1.O.lt
                    have hsl := J1.s.lt
                    have cs1 := J1.s.c1
                    clear J0
                    go_wp2_with (fail)
                    go_region_law (first
                      | (refine step_append_run hap _ _ rfl rfl rfl (by simp [Act.eval, Act.put]) (by simp [Act.eval, Act.put]) ?_)
                      | (go_simp; go_at_call 23
                         refine (cB _).mono ?_
                         rintro e w6 ⟨rfl, b6⟩
                         have dm := J1.d.after b6
                         obtain ⟨v', w7, hap, d7, b7, k7, v7⟩ := dm.pushA (P := Tryd.prog) (T := 27) Tryd.underlying27 hi hz0 hz1 hz2 rfl (.string (blockS lv)) rfl (by have := b6.size; omega) (by simp [dataTo_len]; omega) (by simp [dataTo_len]; omega)
                         obtain ⟨ua', uc', ev⟩ := d7.isSlice
                         rw [List.length_append, List.length_map, dataTo_len, List.length_singleton] at ev
                         subst ev
                         have sm := J1.s.below b6 hsl
                         have csm := sm.c1
                         have csa := cell_alloc_l (.cells #[.string (blockS lv)] 9) csm
                         have s7 : RBx w7 y (s : Int) (.slice ua j uc) := sm.heap (k7 y sm.lt (fun e => by have := (dm.o.lt y e).1; omega)) b7.size
                         have cs7 := s7.c1
                         have ds7 := s7.f1
                         have eh : Hid (∀ i, i < w3.drew.heap.size → i < y → (w7.setCell ⟨y, 1, none⟩ (.slice ua' (j + 1) uc')).heap[i]? = w3.drew.heap[i]?) := Lib.hid fun i h1 h2 => by
                           rw [Below.heap_setCell _ _ _ _ (by show i ≠ y; omega), ← b6.block i h1]
                           exact k7 i (by have := b6.size; omega) (fun e => by have := (dm.o.lt i e).1; omega)
                         have hsz : Hid (w3.drew.heap.size ≤ (w7.setCell ⟨y, 1, none⟩ (.slice ua' (j + 1) uc')).heap.size) := Lib.hid (by have := b7.size; have := b6.size; rw [World.size_setCell]; omega)
                         have hbb : Hid (Below p w (w7.setCell ⟨y, 1, none⟩ (.slice ua' (j + 1) uc'))) := Lib.hid (((J1.F.b.trans (b6.mono (by have := J1.F.hg; omega))).trans (b7.mono (by have := J1.F.hg; omega))).setCell (p := ⟨y, 1, none⟩) (by have := J1.F.hg; show p ≤ y; omega) _)
                         replace s7 := Lib.hid s7
                         replace d7 := Lib.hid d7
                         replace sm := Lib.hid sm
                         clear dm v7 b6))
                    all_goals
                      go_wp2_with (fail)
                      go_roundw
                      case rel =>
                        refine ⟨j + 1, .slice ua' (j + 1) uc', by omega, by go_num, by go_num, ?_, ?_, ?_, ?_, s7.out.set1 _, ?_⟩
                        · exact J1.F.to (fun i h1 h2 => eh.out i h1 (by omega)) hsz.out hbb.out
                        · exact J1.R.heap (eh.out _ hrl (by omega))
                        · exact J1.O.heap (eh.out _ hol (by omega)) hsz.out
                        · exact J1.f.heapO fun u hu i hi => eh.out i (J1.f.old u hu i hi).2 (by have := (hF0.out.old u hu i hi).2; have := hy.out; omega)
                        · have := d7.out.setOther (a := ⟨y, 1, none⟩) (fun e => by have := (d7.out.o.lt y e).1; omega) (.slice ua' (j + 1) uc')
                          rw [hds.out, List.map_append, hlv.out]
                          exact this
                      case measure => simp [intOf]; omega
                · obtain rfl : j = r.kk := by omega
                  have y4 : ¬ ((r.kk : Int) < (r.kk : Int)) := by omega
                  obtain ⟨i2, hi, hz, hs2, hb2⟩ : ∃ i, Tryd.prog.info? 52 = some i ∧ i.zero = some (.agg #[.int .i64 0, .slice none 0 0]) ∧ i.size = 2 ∧ i.bytes = 32 := info_parts (by kernel_rfl)
                  obtain ⟨v', w7, hap, o7, b7, k7, v7⟩ := f0.o.push (P := Tryd.prog) (S := 24) Tryd.underlying24 hi hz hs2 hb2 rfl (⟨(s : Int), dataTo r.le k0 r.kk, .slice ua r.kk uc⟩ : St) #[.int .i64 (s : Int), .slice ua r.kk uc] (by show [Value.int .i64 (s : Int), .slice ua r.kk uc] = [.int .i64 (s : Int), cell1 (.slice ua r.kk uc)]; rw [cell1_slice]) (by have := O0.lt; omega) (by omega) (by omega)
                  have hF7 := Lib.hid (hF0.out.push (C := y + 1) (by have := hy.out; omega) d0 f0 (by have := hy.out; have := s0.lt; omega) o7 k7 v7 (by omega))
                  obtain ⟨va', vc', ev⟩ := o7.isSlice
                  rw [List.length_append, List.length_singleton] at ev
                  subst ev
                  have X7 : RBx w7 x (1 + pq) (.slice va l.length vc) := O0.heap (k7 x O0.lt (fun e => by have := (f0.old _ (.inl rfl) x e).1; omega)) b7.size
                  have c0 := O0.c1
                  have c1 := s0.c0
                  have c2 := s0.c1
                  have c7 := X7.c1
                  have d7 := X7.f1
                  have eh : Hid (∀ i, i < wr.heap.size → i < x → (w7.setCell ⟨x, 1, none⟩ (.slice va' (l.length + 1) vc')).heap[i]? = wr.heap[i]?) := Lib.hid fun i h1 h2 => by
                    rw [Below.heap_setCell _ _ _ _ (by show i ≠ x; omega)]
                    exact k7 i h1 (fun e => by have := (f0.old _ (.inl rfl) i e).1; omega)
                  have hsz : Hid (wr.heap.size ≤ (w7.setCell ⟨x, 1, none⟩ (.slice va' (l.length + 1) vc')).heap.size) := Lib.hid (by simpa using b7.size)
                  have hbb : Hid (Below p w (w7.setCell ⟨x, 1, none⟩ (.slice va' (l.length + 1) vc'))) := Lib.hid ((F0.b.trans (b7.mono (by have := F0.hg; omega))).setCell (p := ⟨x, 1, none⟩) (by have := F0.hg; show p ≤ x; omega) _)
                  have FF := Lib.hid F0
                  replace hF7 : Hid (SFam (w7.setCell ⟨x, 1, none⟩ (.slice va' (l.length + 1) vc')) (x + 1) (.slice va' (l.length + 1) vc') (l ++ [(⟨(s : Int), dataTo r.le k0 r.kk, .slice ua r.kk uc⟩ : St)])) := Lib.hid (hF7.out.heap fun i h1 h2 => Below.heap_setCell _ _ _ _ (by show i ≠ x; omega))
                  replace X7 := Lib.hid X7
                  have hRl := R0.lt
                  clear hi hz hs2 hb2 i2 o7 b7 k7 v7 d0 f0 O0 s0 F0
                  go_wp2_with (at_builtin; refine wpList_append_run hap _ _ rfl rfl rfl rfl rfl ?_)
                  go_roundw
                  case rel =>
                    refine ⟨s + 1, .slice va' (l.length + 1) vc', l ++ [(⟨(s : Int), dataTo r.le k0 r.kk, .slice ua r.kk uc⟩ : St)], by omega, by go_num, ?_, ?_, ?_, X7.out.set1 _, hF7.out, hl2.out _⟩
                    · have h1 : (l ++ [(⟨(s : Int), dataTo r.le k0 r.kk, .slice ua r.kk uc⟩ : St)]).length * r.kk = k0 + r.kk := by rw [List.length_append, List.length_singleton, Nat.succ_mul, hK0.out]
                      rw [h1]; go_num
                    · exact FF.out.to (fun i h1 h2 => eh.out i h1 (by omega)) hsz.out hbb.out
                    · exact R0.heap (eh.out _ hRl (by omega))
                  case measure => simp [intOf]; omega
          · obtain rfl : s = n := by omega
            have y3 : ¬ ((s : Int) < (s : Int)) := by omega
            have e0 := F0.gb.c0
            have e1 := F0.gb.c1
            have e2 := F0.gb.c2
            have e3 := O0.c0
            have e4 := O0.c1
            have z0 := F0.z0
            have z1 := F0.z1
            have z2 := F0.z2
            have z3 := F0.f0
            have z4 := F0.f1
            have z5 := F0.f2
            have z6 := F0.y.c0
            have z7 := F0.y.c1
            have z8 := F0.y.f0
            have z9 := F0.y.f1
            have hgp := F0.hg
            have q1 : ¬ x = p + 1 := by omega
            have q2 : ¬ x = p + 1 + 1 := by omega
            have q3 : ¬ g = p + 1 := by omega
            have q4 : ¬ g = p + 1 + 1 := by omega
            have q5 : ¬ p + 1 = x := by omega
            have q6 : ¬ p + 1 + 1 = x := by omega
            have q7 : ¬ p + 1 = g := by omega
            have q8 : ¬ p + 1 + 1 = g := by omega
            go_wp2_with (fail)
            go_region
            go_wp2_with (fail)
            have hxl := O0.lt
            have G1 := geo_put F0.z0 F0.z1 F0.z2 (by omega) (fK r.k) (fM r.m) (fB r.b)
            have Y1 := (F0.y.heap (geo_heap wr (p + 1) (.int .i64 (fK r.k)) (.int .i64 (fM r.m)) (.int .i64 (fB r.b)) (k := p + 1 + 1) (by omega)) (by simp)).put (1 + pq) (.slice va l.length vc)
            have G2 := G1.heap (put_heap _ (p + 1 + 1) (1 + pq) (.slice va l.length vc) (k := p + 1) (by omega)) (by simp)
            refine bodyPost_ret (res_fit (G2.heap rfl (Nat.le_refl _)) (Y1.heap rfl (Nat.le_refl _)) rfl rfl) rfl ?_
            refine ⟨.slice va l.length vc, l, by rw [hQ.out], ?_, by rw [hSt.out]; exact hl, ?_⟩
            · rw [hp.out]
              refine (f0.heap fun i h1 h2 => ?_).mono (by omega)
              show (World.setCell (World.setCell _ _ _) _ _).heap[i]? = _
              rw [put_heap _ _ _ _ (by omega), geo_heap _ _ _ _ _ (by omega)]
            · rw [hp.out]
              have hbW := put_below (b := p + 1 + 1) (((F0.b.setCell (p := ⟨p + 1, 0, none⟩) (by show p ≤ p + 1; omega) (.int .i64 (fK r.k))).setCell (p := ⟨p + 1, 1, none⟩) (by show p ≤ p + 1; omega) (.int .i64 (fM r.m))).setCell (p := ⟨p + 1, 2, none⟩) (by show p ≤ p + 1; omega) (.int .i64 (fB r.b))) (by omega) (1 + pq) (.slice va l.length vc)
              exact hbW.drew
end Go.Proofs.YtdbjfofnkijmoaaDoor
