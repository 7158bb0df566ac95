/- label: labels whose slices are a call's own; clones. -/
import Derived.Test.YtaopknddpagjeaaDoorLabGet
import Derived.Test.YtaopknddpagjeaaDoorShelf
import Derived.Deep.RegionHeld3
import Derived.BigRegion
namespace Go.Proofs.YtaopknddpagjeaaDoor
open Go.RowKit
set_option linter.unusedVariables false
set_option linter.unusedSimpArgs false
open Lb

theorem Own.isSlice {w : World} {B : Nat} {E : TypeId} {v : Value} {xs : List Value} (h : Own w B E v xs) : ∃ a c, v = .slice a xs.length c := by
  rcases h.o.2 with ⟨h1, h2⟩ | ⟨g, cap, cur, h1, _⟩
  · exact ⟨none, 0, by rw [h1, h2]⟩
  · exact ⟨_, _, h1⟩
theorem Reads.isSlice {w : World} {v : Value} {xs : List Value} (h : Reads w v xs) : ∃ a c, v = .slice a xs.length c := by
  rcases h with ⟨⟨a, c, h1⟩, h2⟩ | ⟨b, off, cap, h1, _⟩
  · exact ⟨a, c, by rw [h1, h2]; rfl⟩
  · exact ⟨_, _, h1⟩
def GivesI (w : World) (l : List Int) (e : Ending) (w' : World) : Prop := ∃ v, e = .returned v ∧ Own w' w.heap.size 3 v (l.map (.int .i64)) ∧ Below w.heap.size w w'
theorem iclone_any (v : Value) (l : List Int) (w : World) (hR : Reads w v (l.map (.int .i64))) (hl : l.length ≤ 1000) : Calls Tryd.prog 66 #[v] w (GivesI w l) := by
  rcases hR with ⟨⟨a, c, rfl⟩, h2⟩ | ⟨b, off, cap, rfl, h1, h2⟩
  · obtain rfl : l = [] := by simpa using h2
    rcases a with _ | a
    · exact (Tryd.slices_Clone_int_nil 0 c w).mono fun e w' h => ⟨_, h.1, Own.nil _ _ _, by rw [h.2]; exact Below.refl _ _⟩
    · refine (Tryd.slices_Clone_int_zero a c w).mono fun e w' h => ?_
      obtain ⟨v', e1, o1, _, b1⟩ := h
      exact ⟨v', e1, ⟨o1⟩, b1⟩
  · rw [List.length_map] at h2 ⊢
    refine (Tryd.slices_Clone_int b off l.length cap l w (Nat.le_refl _) (by omega) (fun j hj => ?_)).mono fun e w' h => ?_
    · rw [h2 j hj]; simp [List.getD_eq_getElem?_getD, hj]
    · obtain ⟨v', e1, o1, _, b1⟩ := h
      exact ⟨v', e1, ⟨by rw [List.length_map]; rwa [List.take_of_length_le (Nat.le_refl _)] at o1⟩, b1⟩
/-- Three slices of a call's own. -/
structure O3 (w : World) (B : Nat) (x : Lbl) (va vb vc : Value) : Prop where
  a : Own w B 3 va (x.st.map (.int .i64))
  b : Own w B 3 vb (x.bo.map (.int .i64))
  c : Own w B 3 vc (x.cu.map (.int .i64))
  ab : Apart va vb
  ac : Apart va vc
  bc : Apart vb vc
theorem O3.lr {w : World} {B : Nat} {x : Lbl} {va vb vc : Value} (h : O3 w B x va vb vc) (h1 : x.st.length ≤ 140737488355328) (h2 : x.bo.length ≤ 140737488355328) (h3 : x.cu.length ≤ 140737488355328) : LR w x va vb vc := ⟨h.a.reads, h.b.reads, h.c.reads, h1, h2, h3⟩
theorem O3.after {w w' : World} {B : Nat} {x : Lbl} {va vb vc : Value} (h : O3 w B x va vb vc) (hb : Below w.heap.size w w') : O3 w' B x va vb vc := ⟨h.a.after hb, h.b.after hb, h.c.after hb, h.ab, h.ac, h.bc⟩
theorem O3.mono {w : World} {B B' : Nat} {x : Lbl} {va vb vc : Value} (h : O3 w B x va vb vc) (hB : B' ≤ B) : O3 w B' x va vb vc := ⟨h.a.mono hB, h.b.mono hB, h.c.mono hB, h.ab, h.ac, h.bc⟩
theorem O3.heap {w w' : World} {B : Nat} {x : Lbl} {va vb vc : Value} (h : O3 w B x va vb vc) (hs : ∀ k, B ≤ k → k < w.heap.size → w'.heap[k]? = w.heap[k]?) : O3 w' B x va vb vc := by
  have one : ∀ {v : Value} {xs : List Value}, Own w B 3 v xs → Own w' B 3 v xs := fun ho => by
    refine ⟨ho.o.1, ?_⟩
    rcases ho.o.2 with h1 | ⟨g, cap, cur, h1, h2, h3, h4⟩
    · exact .inl h1
    · exact .inr ⟨g, cap, cur, h1, h2, by rw [hs g h2 (Array.getElem?_eq_some_iff.1 h3).1]; exact h3, h4⟩
  exact ⟨one h.a, one h.b, one h.c, h.ab, h.ac, h.bc⟩
theorem O3.ghost {w : World} {B : Nat} {x y : Lbl} {va vb vc : Value} (h : O3 w B x va vb vc) (h1 : y.st = x.st) (h2 : y.bo = x.bo) (h3 : y.cu = x.cu) : O3 w B y va vb vc := ⟨by rw [h1]; exact h.a, by rw [h2]; exact h.b, by rw [h3]; exact h.c, h.ab, h.ac, h.bc⟩
def GivesO (w : World) (x : Lbl) (e : Ending) (w' : World) : Prop := ∃ va vb vc, e = .returned (x.v va vb vc) ∧ O3 w' w.heap.size x va vb vc ∧ Below w.heap.size w w'
/-- All blocks but one are as they were. -/
def KP (p : Nat) (w w' : World) : Prop := w.heap.size ≤ w'.heap.size ∧ ∀ k, k < w.heap.size → k ≠ p → w'.heap[k]? = w.heap[k]?
theorem KP.refl (p : Nat) (w : World) : KP p w w := ⟨Nat.le_refl _, fun _ _ _ => rfl⟩
theorem KP.trans {p : Nat} {a b c : World} (h : KP p a b) (k : KP p b c) : KP p a c := ⟨Nat.le_trans h.1 k.1, fun i hi hne => (k.2 i (Nat.lt_of_lt_of_le hi h.1) hne).trans (h.2 i hi hne)⟩
theorem KP.below {p : Nat} {w w' : World} (h : Below w.heap.size w w') : KP p w w' := ⟨h.size, fun k hk _ => h.block k hk⟩
theorem KP.set {p : Nat} {w w' : World} (h : KP p w w') (o : Nat) (v : Value) : KP p w (w'.setCell ⟨p, o, none⟩ v) := ⟨by simpa using h.1, fun k hk hne => (Below.heap_setCell _ _ _ _ hne).trans (h.2 k hk hne)⟩
theorem KP.own {p : Nat} {w w' : World} (h : KP p w w') {B : Nat} {E : TypeId} {v : Value} {xs : List Value} (ho : Own w B E v xs) (hB : p < B) : Own w' B E v xs := by
  refine ⟨ho.o.1, ?_⟩
  rcases ho.o.2 with h1 | ⟨g, cap, cur, h1, h2, h3, h4⟩
  · exact .inl h1
  · exact .inr ⟨g, cap, cur, h1, h2, by rw [h.2 g (Array.getElem?_eq_some_iff.1 h3).1 (by omega)]; exact h3, h4⟩
theorem Apart.lt {w w' : World} {B C : Nat} {E F : TypeId} {u v : Value} {xs ys : List Value} (h : Own w B E u xs) (k : Own w' C F v ys) (hs : w.heap.size ≤ C) : Apart u v := fun i hu hv => by
  have := (h.o.lt i hu).2
  have := (k.o.lt i hv).1
  omega
theorem reads_kp {p : Nat} {w wb W : World} {v : Value} {xs : List Value} (h : Reads w v xs) (hb : Below p w wb.drew) (hp : w.heap.size = p) (hk : KP p wb W) : Reads W v xs := by
  rcases h with h | ⟨b, off, cap, h1, h2, h3⟩
  · exact .inl h
  · have hz : wb.heap.size = wb.drew.heap.size := rfl
    have hs := hb.size
    exact .inr ⟨b, off, cap, h1, by have := hk.1; omega, fun i hi => by
      rw [cell_of_heap (hk.2 b (by omega) (by omega)), ← h3 i hi]
      exact hb.cell (p := ⟨b, off + i, none⟩) (by show b < p; omega)⟩
theorem cel0 {p : Nat} {W w1 : World} {a b c : Value} (hb : Below W.heap.size W w1) (lp : p < W.heap.size) (e6 : W.cell? ⟨p, 6, none⟩ = some a) (e7 : W.cell? ⟨p, 7, none⟩ = some b) (e8 : W.cell? ⟨p, 8, none⟩ = some c) (u6 : W.frozen? ⟨p, 6, none⟩ = false) (u7 : W.frozen? ⟨p, 7, none⟩ = false) (u8 : W.frozen? ⟨p, 8, none⟩ = false) :
    (w1.cell? ⟨p, 6, none⟩ = some a ∧ w1.cell? ⟨p, 7, none⟩ = some b ∧ w1.cell? ⟨p, 8, none⟩ = some c) ∧ w1.frozen? ⟨p, 6, none⟩ = false ∧ w1.frozen? ⟨p, 7, none⟩ = false ∧ w1.frozen? ⟨p, 8, none⟩ = false :=
  ⟨⟨(hb.cell (p := ⟨p, 6, none⟩) lp).trans e6, (hb.cell (p := ⟨p, 7, none⟩) lp).trans e7, (hb.cell (p := ⟨p, 8, none⟩) lp).trans e8⟩, (hb.frozen (p := ⟨p, 6, none⟩) lp).trans u6, (hb.frozen (p := ⟨p, 7, none⟩) lp).trans u7, (hb.frozen (p := ⟨p, 8, none⟩) lp).trans u8⟩
theorem cel6 {p : Nat} {W w1 : World} {v a b c : Value} (hb : Below (W.setCell ⟨p, 6, none⟩ v).heap.size (W.setCell ⟨p, 6, none⟩ v) w1) (lp : p < W.heap.size) (e6 : W.cell? ⟨p, 6, none⟩ = some a) (e7 : W.cell? ⟨p, 7, none⟩ = some b) (e8 : W.cell? ⟨p, 8, none⟩ = some c) (u6 : W.frozen? ⟨p, 6, none⟩ = false) (u7 : W.frozen? ⟨p, 7, none⟩ = false) (u8 : W.frozen? ⟨p, 8, none⟩ = false) :
    (w1.cell? ⟨p, 6, none⟩ = some v ∧ w1.cell? ⟨p, 7, none⟩ = some b ∧ w1.cell? ⟨p, 8, none⟩ = some c) ∧ w1.frozen? ⟨p, 6, none⟩ = false ∧ w1.frozen? ⟨p, 7, none⟩ = false ∧ w1.frozen? ⟨p, 8, none⟩ = false :=
  cel0 hb (by simpa using lp) (World.cell?_setCell_same' _ _ _ (by rw [e6]; rfl)) (by rw [World.cell?_setCell_other _ _ _ _ (by simp)]; exact e7) (by rw [World.cell?_setCell_other _ _ _ _ (by simp)]; exact e8) (by rw [World.frozen?_setCell]; exact u6) (by rw [World.frozen?_setCell]; exact u7) (by rw [World.frozen?_setCell]; exact u8)
theorem cel67 {p : Nat} {W w1 : World} {v u a b c : Value} (hb : Below ((W.setCell ⟨p, 6, none⟩ v).setCell ⟨p, 7, none⟩ u).heap.size ((W.setCell ⟨p, 6, none⟩ v).setCell ⟨p, 7, none⟩ u) w1) (lp : p < W.heap.size) (e6 : W.cell? ⟨p, 6, none⟩ = some a) (e7 : W.cell? ⟨p, 7, none⟩ = some b) (e8 : W.cell? ⟨p, 8, none⟩ = some c) (u6 : W.frozen? ⟨p, 6, none⟩ = false) (u7 : W.frozen? ⟨p, 7, none⟩ = false) (u8 : W.frozen? ⟨p, 8, none⟩ = false) :
    (w1.cell? ⟨p, 6, none⟩ = some v ∧ w1.cell? ⟨p, 7, none⟩ = some u ∧ w1.cell? ⟨p, 8, none⟩ = some c) ∧ w1.frozen? ⟨p, 6, none⟩ = false ∧ w1.frozen? ⟨p, 7, none⟩ = false ∧ w1.frozen? ⟨p, 8, none⟩ = false :=
  cel0 hb (by simpa using lp) (by rw [World.cell?_setCell_other _ _ _ _ (by simp)]; exact World.cell?_setCell_same' _ _ _ (by rw [e6]; rfl)) (World.cell?_setCell_same' _ _ _ (by rw [World.cell?_setCell_other _ _ _ _ (by simp), e7]; rfl)) (by rw [World.cell?_setCell_other _ _ _ _ (by simp), World.cell?_setCell_other _ _ _ _ (by simp)]; exact e8) (by rw [World.frozen?_setCell, World.frozen?_setCell]; exact u6) (by rw [World.frozen?_setCell, World.frozen?_setCell]; exact u7) (by rw [World.frozen?_setCell, World.frozen?_setCell]; exact u8)
theorem LblBox.set3 {w : World} {p : Nat} {x : Lbl} {vs vb vc : Value} (h : LblBox w p x vs vb vc) (a b c : Value) : LblBox (((w.setCell ⟨p, 6, none⟩ a).setCell ⟨p, 7, none⟩ b).setCell ⟨p, 8, none⟩ c) p x a b c := by
  have o : ∀ o, o ≠ 6 → o ≠ 7 → o ≠ 8 → (((w.setCell ⟨p, 6, none⟩ a).setCell ⟨p, 7, none⟩ b).setCell ⟨p, 8, none⟩ c).cell? ⟨p, o, none⟩ = w.cell? ⟨p, o, none⟩ := fun o h6 h7 h8 => by
    rw [World.cell?_setCell_other _ _ _ _ (fun e => h8 (congrArg Addr.off e).symm), World.cell?_setCell_other _ _ _ _ (fun e => h7 (congrArg Addr.off e).symm), World.cell?_setCell_other _ _ _ _ (fun e => h6 (congrArg Addr.off e).symm)]
  refine ⟨⟨?_, ?_, ?_, ?_, ?_, ?_, ?_, ?_, ?_, by simpa using h.a.lt⟩, fun o => by simp only [World.frozen?_setCell]; exact h.f o⟩
  · rw [o 0 (by omega) (by omega) (by omega)]; exact h.a.c0
  · rw [o 1 (by omega) (by omega) (by omega)]; exact h.a.c1
  · rw [o 2 (by omega) (by omega) (by omega)]; exact h.a.c2
  · rw [o 3 (by omega) (by omega) (by omega)]; exact h.a.c3
  · rw [o 4 (by omega) (by omega) (by omega)]; exact h.a.c4
  · rw [o 5 (by omega) (by omega) (by omega)]; exact h.a.c5
  · rw [World.cell?_setCell_other _ _ _ _ (by simp), World.cell?_setCell_other _ _ _ _ (by simp)]
    exact World.cell?_setCell_same' _ _ _ (by rw [h.a.c6]; rfl)
  · rw [World.cell?_setCell_other _ _ _ _ (by simp)]
    exact World.cell?_setCell_same' _ _ _ (by rw [World.cell?_setCell_other _ _ _ _ (by simp), h.a.c7]; rfl)
  · exact World.cell?_setCell_same' _ _ _ (by rw [World.cell?_setCell_other _ _ _ _ (by simp), World.cell?_setCell_other _ _ _ _ (by simp), h.a.c8]; rfl)
theorem clone_own {p : Nat} {wb w1 w2 w3 : World} {x : Lbl} {v1 v2 v3 : Value} (lp : p + 1 < wb.drew.heap.size) (o1 : Own w1 wb.drew.heap.size 3 v1 (x.st.map (.int .i64))) (o2 : Own w2 w1.heap.size 3 v2 (x.bo.map (.int .i64))) (o3 : Own w3 w2.heap.size 3 v3 (x.cu.map (.int .i64))) (b1 : Below wb.drew.heap.size wb.drew w1) (b2 : Below w1.heap.size w1 w2) (b3 : Below w2.heap.size w2 w3) :
    O3 w3 (p + 2) x v1 v2 v3 := by
  exact ⟨((o1.after b2).after b3).mono (by omega), (o2.after b3).mono (by have := b1.size; omega), o3.mono (by have := b1.size; have := b2.size; omega), Apart.lt o1 o2 (Nat.le_refl _), Apart.lt o1 o3 b2.size, Apart.lt o2 o3 (Nat.le_refl _)⟩
theorem res_clone {tm : Array Value} {W : World} {b : Nat} {x : Lbl} {vs vb vc : Value} (h : LblBox W b x vs vb vc) (h2 : tm.getD 2 undef = .pointer (some ⟨b, 0, none⟩)) :
    (results Tryd.f54 tm).run Tryd.prog W = .ok (x.v vs vb vc) W := by
  have h2' : tm[2]?.getD undef = .pointer (some ⟨b, 0, none⟩) := by simpa using h2
  simp [results, Tryd.results54, go_sem, h2', h.a.c0, h.a.c1, h.a.c2, h.a.c3, h.a.c4, h.a.c5, h.a.c6, h.a.c7, h.a.c8, Lbl.v]
set_option maxRecDepth 100000 in
set_option maxHeartbeats 8000000 in
theorem clone_any (x : Lbl) (vs vb vc : Value) (w : World) (h : LR w x vs vb vc) (h1 : x.st.length ≤ 1000) (h2 : x.bo.length ≤ 1000) (h3 : x.cu.length ≤ 1000) : Calls Tryd.prog 54 #[x.v vs vb vc] w (GivesO w x) := by
  unfold Lbl.v
  obtain ⟨p, hp⟩ : ∃ p, w.heap.size = p := ⟨_, rfl⟩
  have bw : Below p w ((w.alloc (.cells #[.int .i64 x.i, .int .i64 x.s, .int .i64 x.g, .int .i64 x.k, .int .i64 x.m, .int .i64 x.b, vs, vb, vc] 26)).alloc (.cells #[.int .i64 0, .int .i64 0, .int .i64 0, .int .i64 0, .int .i64 0, .int .i64 0, .slice none 0 0, .slice none 0 0, .slice none 0 0] 26)) := ((Below.refl _ _).alloc (by omega) _).alloc (by simp; omega) _
  have ba : Below (p + 1) (w.alloc (.cells #[.int .i64 x.i, .int .i64 x.s, .int .i64 x.g, .int .i64 x.k, .int .i64 x.m, .int .i64 x.b, vs, vb, vc] 26)) ((w.alloc (.cells #[.int .i64 x.i, .int .i64 x.s, .int .i64 x.g, .int .i64 x.k, .int .i64 x.m, .int .i64 x.b, vs, vb, vc] 26)).alloc (.cells #[.int .i64 0, .int .i64 0, .int .i64 0, .int .i64 0, .int .i64 0, .int .i64 0, .slice none 0 0, .slice none 0 0, .slice none 0 0] 26)) := (Below.refl _ _).alloc (by simp; omega) _
  have xa : LblBox (w.alloc (.cells #[.int .i64 x.i, .int .i64 x.s, .int .i64 x.g, .int .i64 x.k, .int .i64 x.m, .int .i64 x.b, vs, vb, vc] 26)) w.heap.size x vs vb vc := ⟨LblAt.made w x vs vb vc 26, fun o => frozen_of_row _ _ _ _ _ (heap_alloc_new _ _)⟩
  have xb := xa.below ba (by omega)
  have zb := LblBox.made (w.alloc (.cells #[.int .i64 x.i, .int .i64 x.s, .int .i64 x.g, .int .i64 x.k, .int .i64 x.m, .int .i64 x.b, vs, vb, vc] 26)) 26
  rw [show (w.alloc (.cells #[.int .i64 x.i, .int .i64 x.s, .int .i64 x.g, .int .i64 x.k, .int .i64 x.m, .int .i64 x.b, vs, vb, vc] 26)).heap.size = p + 1 by simp [hp]] at zb
  rw [hp] at xb
  clear ba xa
  go_enter Tryd.func54, Tryd.ntmps54
  go_wp2_with (fail)
  generalize (w.alloc (.cells #[.int .i64 x.i, .int .i64 x.s, .int .i64 x.g, .int .i64 x.k, .int .i64 x.m, .int .i64 x.b, vs, vb, vc] 26)).alloc (.cells #[.int .i64 0, .int .i64 0, .int .i64 0, .int .i64 0, .int .i64 0, .int .i64 0, .slice none 0 0, .slice none 0 0, .slice none 0 0] 26) = wb at *
  have xd : LblBox wb.drew p x vs vb vc := ⟨⟨xb.a.c0, xb.a.c1, xb.a.c2, xb.a.c3, xb.a.c4, xb.a.c5, xb.a.c6, xb.a.c7, xb.a.c8, xb.a.lt⟩, xb.f⟩
  have hw := h.below (hp ▸ bw.drew)
  have bd := bw.drew
  have zd : LblBox wb.drew (p + 1) noLbl (.slice none 0 0) (.slice none 0 0) (.slice none 0 0) := ⟨⟨zb.a.c0, zb.a.c1, zb.a.c2, zb.a.c3, zb.a.c4, zb.a.c5, zb.a.c6, zb.a.c7, zb.a.c8, zb.a.lt⟩, zb.f⟩
  have lp : p + 1 < wb.drew.heap.size := zd.a.lt
  clear xb zb bw
  replace hp := Lib.hid hp
  have e6 : wb.cell? ⟨p, 6, none⟩ = some vs := xd.a.c6
  have e7 : wb.cell? ⟨p, 7, none⟩ = some vb := xd.a.c7
  have e8 : wb.cell? ⟨p, 8, none⟩ = some vc := xd.a.c8
  have u6 : wb.frozen? ⟨p, 6, none⟩ = false := xd.f 6
  have u7 : wb.frozen? ⟨p, 7, none⟩ = false := xd.f 7
  have u8 : wb.frozen? ⟨p, 8, none⟩ = false := xd.f 8
  have lwd : p < wb.drew.heap.size := by omega
  have lw : p < wb.heap.size := by have : p + 1 < wb.heap.size := lp; omega
  have c1 : ∀ W, KP p wb W → Calls Tryd.prog 66 #[vs] W (GivesI W x.st) := fun W hk => iclone_any vs x.st W (reads_kp h.s bd hp.out hk) h1
  have c2 : ∀ W, KP p wb W → Calls Tryd.prog 66 #[vb] W (GivesI W x.bo) := fun W hk => iclone_any vb x.bo W (reads_kp h.b bd hp.out hk) h2
  have c3 : ∀ W, KP p wb W → Calls Tryd.prog 66 #[vc] W (GivesI W x.cu) := fun W hk => iclone_any vc x.cu W (reads_kp h.c bd hp.out hk) h3
  replace c1 := Lib.hid c1
  replace c2 := Lib.hid c2
  replace c3 := Lib.hid c3
  have k0 : KP p wb wb.drew := ⟨Nat.le_refl _, fun _ _ _ => rfl⟩
  go_region_with (go_at_call 66; first
    | ((with_reducible refine (c1.out _ (by assumption)).mono ?_); rintro e w1 ⟨v1, rfl, o1, b1⟩; obtain ⟨a1, d1, rfl⟩ := o1.isSlice; have k1 : KP p wb w1 := KP.trans (by assumption) (KP.below b1); have l1 : p < w1.heap.size := Nat.lt_of_lt_of_le lw k1.1; obtain ⟨⟨g16, g17, g18⟩, f16, f17, f18⟩ := cel0 b1 lwd e6 e7 e8 u6 u7 u8)
    | ((with_reducible refine (c2.out _ (by first | assumption | exact KP.set (by assumption) _ _ | exact KP.set (KP.set (by assumption) _ _) _ _)).mono ?_); rintro e w2 ⟨v2, rfl, o2, b2⟩; obtain ⟨a2, d2, rfl⟩ := o2.isSlice; have k2 : KP p wb w2 := KP.trans (by first | assumption | exact KP.set (by assumption) _ _ | exact KP.set (KP.set (by assumption) _ _) _ _) (KP.below b2); have l2 : p < w2.heap.size := Nat.lt_of_lt_of_le lw k2.1; obtain ⟨y26, ⟨g26, g27, g28⟩, f26, f27, f28⟩ : ∃ y, (w2.cell? ⟨p, 6, none⟩ = some y ∧ w2.cell? ⟨p, 7, none⟩ = some vb ∧ w2.cell? ⟨p, 8, none⟩ = some vc) ∧ w2.frozen? ⟨p, 6, none⟩ = false ∧ w2.frozen? ⟨p, 7, none⟩ = false ∧ w2.frozen? ⟨p, 8, none⟩ = false := (by first | exact ⟨_, cel0 b2 l1 g16 g17 g18 f16 f17 f18⟩ | exact ⟨_, cel6 b2 l1 g16 g17 g18 f16 f17 f18⟩))
    | ((with_reducible refine (c3.out _ (by first | assumption | exact KP.set (by assumption) _ _ | exact KP.set (KP.set (by assumption) _ _) _ _)).mono ?_); rintro e w3 ⟨v3, rfl, o3, b3⟩; obtain ⟨a3, d3, rfl⟩ := o3.isSlice; have k3 : KP p wb w3 := KP.trans (by first | assumption | exact KP.set (by assumption) _ _ | exact KP.set (KP.set (by assumption) _ _) _ _) (KP.below b3); have l3 : p < w3.heap.size := Nat.lt_of_lt_of_le lw k3.1; obtain ⟨y36, y37, ⟨g36, g37, g38⟩, f36, f37, f38⟩ : ∃ y z, (w3.cell? ⟨p, 6, none⟩ = some y ∧ w3.cell? ⟨p, 7, none⟩ = some z ∧ w3.cell? ⟨p, 8, none⟩ = some vc) ∧ w3.frozen? ⟨p, 6, none⟩ = false ∧ w3.frozen? ⟨p, 7, none⟩ = false ∧ w3.frozen? ⟨p, 8, none⟩ = false := (by first | exact ⟨_, _, cel0 b3 l2 g26 g27 g28 f26 f27 f28⟩ | exact ⟨_, _, cel6 b3 l2 g26 g27 g28 f26 f27 f28⟩ | exact ⟨_, _, cel67 b3 l2 g26 g27 g28 f26 f27 f28⟩)))
  all_goals
    rw [List.length_map] at o1 o2 o3
    have x3 := ((xd.below b1 lwd).below b2 l1).below b3 l2
    have z3 := ((zd.below b1 lp).below b2 (Nat.lt_of_lt_of_le lp b1.size)).below b3 (Nat.lt_of_lt_of_le lp (Nat.le_trans b1.size b2.size))
    have O := clone_own lp o1 o2 o3 b1 b2 b3
    have B3 := ((bd.trans (b1.mono (by omega))).trans (b2.mono (by omega))).trans (b3.mono (by omega))
    clear g16 g17 g18 f16 f17 f18 g26 g27 g28 f26 f27 f28 g36 g37 g38 f36 f37 f38 y26 y36 y37 o1 o2 o3 b1 b2 b3 k1 k2 k3 c1 c2 c3 e6 e7 e8 u6 u7 u8 xd zd k0 hw bd l1 l2 l3
    have xf := x3.set3 (.slice a1 x.st.length d1) (.slice a2 x.bo.length d2) (.slice a3 x.cu.length d3)
    have zf : LblBox (((w3.setCell ⟨p, 6, none⟩ (.slice a1 x.st.length d1)).setCell ⟨p, 7, none⟩ (.slice a2 x.bo.length d2)).setCell ⟨p, 8, none⟩ (.slice a3 x.cu.length d3)) (p + 1) noLbl (.slice none 0 0) (.slice none 0 0) (.slice none 0 0) := z3.heap (by rw [Below.heap_setCell _ _ _ _ (by simp), Below.heap_setCell _ _ _ _ (by simp), Below.heap_setCell _ _ _ _ (by simp)]) (by simp)
    have Of : O3 (((w3.setCell ⟨p, 6, none⟩ (.slice a1 x.st.length d1)).setCell ⟨p, 7, none⟩ (.slice a2 x.bo.length d2)).setCell ⟨p, 8, none⟩ (.slice a3 x.cu.length d3)) (p + 2) x (.slice a1 x.st.length d1) (.slice a2 x.bo.length d2) (.slice a3 x.cu.length d3) := O.heap fun k hk _ => by rw [Below.heap_setCell _ _ _ _ (by show k ≠ p; omega), Below.heap_setCell _ _ _ _ (by show k ≠ p; omega), Below.heap_setCell _ _ _ _ (by show k ≠ p; omega)]
    have Bf : Below p w (((w3.setCell ⟨p, 6, none⟩ (.slice a1 x.st.length d1)).setCell ⟨p, 7, none⟩ (.slice a2 x.bo.length d2)).setCell ⟨p, 8, none⟩ (.slice a3 x.cu.length d3)) := ((B3.setCell (p := ⟨p, 6, none⟩) (Nat.le_refl _) _).setCell (p := ⟨p, 7, none⟩) (Nat.le_refl _) _).setCell (p := ⟨p, 8, none⟩) (Nat.le_refl _) _
    clear x3 z3 O B3
    generalize ((w3.setCell ⟨p, 6, none⟩ (.slice a1 x.st.length d1)).setCell ⟨p, 7, none⟩ (.slice a2 x.bo.length d2)).setCell ⟨p, 8, none⟩ (.slice a3 x.cu.length d3) = wf at *
    have ⟨e0, e1, e2, e3, e4, e5, e6, e7, e8, elt⟩ := xf.a
    have ⟨t0, t1, t2, t3, t4, t5, t6, t7, t8, tlt⟩ := zf.a
    have u0 := zf.f 0
    have u1 := zf.f 1
    have u2 := zf.f 2
    have u3 := zf.f 3
    have u4 := zf.f 4
    have u5 := zf.f 5
    have u6 := zf.f 6
    have u7 := zf.f 7
    have u8 := zf.f 8
    go_wp2_with (fail)
    refine bodyPost_ret (res_clone (zf.put x (.slice a1 x.st.length d1) (.slice a2 x.bo.length d2) (.slice a3 x.cu.length d3)) rfl) rfl ?_
    refine ⟨_, _, _, rfl, (Of.heap fun k hk _ => setL_heap _ _ _ _ _ _ _ (by omega)).mono (by rw [hp.out]; omega), ?_⟩
    rw [hp.out]
    exact setL_below Bf (by omega) x (.slice a1 x.st.length d1) (.slice a2 x.bo.length d2) (.slice a3 x.cu.length d3)
end Go.Proofs.YtaopknddpagjeaaDoor
