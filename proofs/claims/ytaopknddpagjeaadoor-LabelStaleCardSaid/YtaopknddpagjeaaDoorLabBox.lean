/- label: what comes next; plain. -/
import Derived.Test.YtaopknddpagjeaaDoorLabOwn
import Derived.Test.YtaopknddpagjeaaDoorGeoWalk2
namespace Go.Proofs.YtaopknddpagjeaaDoor
open Go.RowKit
set_option linter.unusedVariables false
set_option linter.unusedSimpArgs false
open Lb

theorem LblBox.num0 {w : World} {p : Nat} {x : Lbl} {vs vb vc : Value} (h : LblBox w p x vs vb vc) (n : Int) : LblBox (w.setCell ⟨p, 0, none⟩ (.int .i64 n)) p { x with i := n } vs vb vc := by
  have o : ∀ o, o ≠ 0 → (w.setCell ⟨p, 0, none⟩ (.int .i64 n)).cell? ⟨p, o, none⟩ = w.cell? ⟨p, o, none⟩ := fun o ho => World.cell?_setCell_other _ _ _ _ (fun e => ho (congrArg Addr.off e).symm)
  refine ⟨⟨?_, ?_, ?_, ?_, ?_, ?_, ?_, ?_, ?_, by simpa using h.a.lt⟩, fun o => by rw [World.frozen?_setCell]; exact h.f o⟩
  · exact World.cell?_setCell_same' _ _ _ (by rw [h.a.c0]; rfl)
  · rw [o 1 (by decide)]; exact h.a.c1
  · rw [o 2 (by decide)]; exact h.a.c2
  · rw [o 3 (by decide)]; exact h.a.c3
  · rw [o 4 (by decide)]; exact h.a.c4
  · rw [o 5 (by decide)]; exact h.a.c5
  · rw [o 6 (by decide)]; exact h.a.c6
  · rw [o 7 (by decide)]; exact h.a.c7
  · rw [o 8 (by decide)]; exact h.a.c8
theorem LblBox.num1 {w : World} {p : Nat} {x : Lbl} {vs vb vc : Value} (h : LblBox w p x vs vb vc) (n : Int) : LblBox (w.setCell ⟨p, 1, none⟩ (.int .i64 n)) p { x with s := n } vs vb vc := by
  have o : ∀ o, o ≠ 1 → (w.setCell ⟨p, 1, none⟩ (.int .i64 n)).cell? ⟨p, o, none⟩ = w.cell? ⟨p, o, none⟩ := fun o ho => World.cell?_setCell_other _ _ _ _ (fun e => ho (congrArg Addr.off e).symm)
  refine ⟨⟨?_, ?_, ?_, ?_, ?_, ?_, ?_, ?_, ?_, by simpa using h.a.lt⟩, fun o => by rw [World.frozen?_setCell]; exact h.f o⟩
  · rw [o 0 (by decide)]; exact h.a.c0
  · exact World.cell?_setCell_same' _ _ _ (by rw [h.a.c1]; rfl)
  · rw [o 2 (by decide)]; exact h.a.c2
  · rw [o 3 (by decide)]; exact h.a.c3
  · rw [o 4 (by decide)]; exact h.a.c4
  · rw [o 5 (by decide)]; exact h.a.c5
  · rw [o 6 (by decide)]; exact h.a.c6
  · rw [o 7 (by decide)]; exact h.a.c7
  · rw [o 8 (by decide)]; exact h.a.c8
theorem LblBox.num2 {w : World} {p : Nat} {x : Lbl} {vs vb vc : Value} (h : LblBox w p x vs vb vc) (n : Int) : LblBox (w.setCell ⟨p, 2, none⟩ (.int .i64 n)) p { x with g := n } vs vb vc := by
  have o : ∀ o, o ≠ 2 → (w.setCell ⟨p, 2, none⟩ (.int .i64 n)).cell? ⟨p, o, none⟩ = w.cell? ⟨p, o, none⟩ := fun o ho => World.cell?_setCell_other _ _ _ _ (fun e => ho (congrArg Addr.off e).symm)
  refine ⟨⟨?_, ?_, ?_, ?_, ?_, ?_, ?_, ?_, ?_, by simpa using h.a.lt⟩, fun o => by rw [World.frozen?_setCell]; exact h.f o⟩
  · rw [o 0 (by decide)]; exact h.a.c0
  · rw [o 1 (by decide)]; exact h.a.c1
  · exact World.cell?_setCell_same' _ _ _ (by rw [h.a.c2]; rfl)
  · rw [o 3 (by decide)]; exact h.a.c3
  · rw [o 4 (by decide)]; exact h.a.c4
  · rw [o 5 (by decide)]; exact h.a.c5
  · rw [o 6 (by decide)]; exact h.a.c6
  · rw [o 7 (by decide)]; exact h.a.c7
  · rw [o 8 (by decide)]; exact h.a.c8
theorem LblBox.num3 {w : World} {p : Nat} {x : Lbl} {vs vb vc : Value} (h : LblBox w p x vs vb vc) (n : Int) : LblBox (w.setCell ⟨p, 3, none⟩ (.int .i64 n)) p { x with k := n } vs vb vc := by
  have o : ∀ o, o ≠ 3 → (w.setCell ⟨p, 3, none⟩ (.int .i64 n)).cell? ⟨p, o, none⟩ = w.cell? ⟨p, o, none⟩ := fun o ho => World.cell?_setCell_other _ _ _ _ (fun e => ho (congrArg Addr.off e).symm)
  refine ⟨⟨?_, ?_, ?_, ?_, ?_, ?_, ?_, ?_, ?_, by simpa using h.a.lt⟩, fun o => by rw [World.frozen?_setCell]; exact h.f o⟩
  · rw [o 0 (by decide)]; exact h.a.c0
  · rw [o 1 (by decide)]; exact h.a.c1
  · rw [o 2 (by decide)]; exact h.a.c2
  · exact World.cell?_setCell_same' _ _ _ (by rw [h.a.c3]; rfl)
  · rw [o 4 (by decide)]; exact h.a.c4
  · rw [o 5 (by decide)]; exact h.a.c5
  · rw [o 6 (by decide)]; exact h.a.c6
  · rw [o 7 (by decide)]; exact h.a.c7
  · rw [o 8 (by decide)]; exact h.a.c8
theorem LblBox.num4 {w : World} {p : Nat} {x : Lbl} {vs vb vc : Value} (h : LblBox w p x vs vb vc) (n : Int) : LblBox (w.setCell ⟨p, 4, none⟩ (.int .i64 n)) p { x with m := n } vs vb vc := by
  have o : ∀ o, o ≠ 4 → (w.setCell ⟨p, 4, none⟩ (.int .i64 n)).cell? ⟨p, o, none⟩ = w.cell? ⟨p, o, none⟩ := fun o ho => World.cell?_setCell_other _ _ _ _ (fun e => ho (congrArg Addr.off e).symm)
  refine ⟨⟨?_, ?_, ?_, ?_, ?_, ?_, ?_, ?_, ?_, by simpa using h.a.lt⟩, fun o => by rw [World.frozen?_setCell]; exact h.f o⟩
  · rw [o 0 (by decide)]; exact h.a.c0
  · rw [o 1 (by decide)]; exact h.a.c1
  · rw [o 2 (by decide)]; exact h.a.c2
  · rw [o 3 (by decide)]; exact h.a.c3
  · exact World.cell?_setCell_same' _ _ _ (by rw [h.a.c4]; rfl)
  · rw [o 5 (by decide)]; exact h.a.c5
  · rw [o 6 (by decide)]; exact h.a.c6
  · rw [o 7 (by decide)]; exact h.a.c7
  · rw [o 8 (by decide)]; exact h.a.c8
theorem LblBox.num5 {w : World} {p : Nat} {x : Lbl} {vs vb vc : Value} (h : LblBox w p x vs vb vc) (n : Int) : LblBox (w.setCell ⟨p, 5, none⟩ (.int .i64 n)) p { x with b := n } vs vb vc := by
  have o : ∀ o, o ≠ 5 → (w.setCell ⟨p, 5, none⟩ (.int .i64 n)).cell? ⟨p, o, none⟩ = w.cell? ⟨p, o, none⟩ := fun o ho => World.cell?_setCell_other _ _ _ _ (fun e => ho (congrArg Addr.off e).symm)
  refine ⟨⟨?_, ?_, ?_, ?_, ?_, ?_, ?_, ?_, ?_, by simpa using h.a.lt⟩, fun o => by rw [World.frozen?_setCell]; exact h.f o⟩
  · rw [o 0 (by decide)]; exact h.a.c0
  · rw [o 1 (by decide)]; exact h.a.c1
  · rw [o 2 (by decide)]; exact h.a.c2
  · rw [o 3 (by decide)]; exact h.a.c3
  · rw [o 4 (by decide)]; exact h.a.c4
  · exact World.cell?_setCell_same' _ _ _ (by rw [h.a.c5]; rfl)
  · rw [o 6 (by decide)]; exact h.a.c6
  · rw [o 7 (by decide)]; exact h.a.c7
  · rw [o 8 (by decide)]; exact h.a.c8
theorem LblBox.row6 {w : World} {p : Nat} {x : Lbl} {va vb vc : Value} (h : LblBox w p x va vb vc) (l : List Int) (u : Value) : LblBox (w.setCell ⟨p, 6, none⟩ u) p { x with st := l } u vb vc := by
  have o : ∀ o, o ≠ 6 → (w.setCell ⟨p, 6, none⟩ u).cell? ⟨p, o, none⟩ = w.cell? ⟨p, o, none⟩ := fun o ho => World.cell?_setCell_other _ _ _ _ (fun e => ho (congrArg Addr.off e).symm)
  refine ⟨⟨?_, ?_, ?_, ?_, ?_, ?_, ?_, ?_, ?_, by simpa using h.a.lt⟩, fun o => by rw [World.frozen?_setCell]; exact h.f o⟩
  · rw [o 0 (by decide)]; exact h.a.c0
  · rw [o 1 (by decide)]; exact h.a.c1
  · rw [o 2 (by decide)]; exact h.a.c2
  · rw [o 3 (by decide)]; exact h.a.c3
  · rw [o 4 (by decide)]; exact h.a.c4
  · rw [o 5 (by decide)]; exact h.a.c5
  · exact World.cell?_setCell_same' _ _ _ (by rw [h.a.c6]; rfl)
  · rw [o 7 (by decide)]; exact h.a.c7
  · rw [o 8 (by decide)]; exact h.a.c8
theorem LblBox.row7 {w : World} {p : Nat} {x : Lbl} {va vb vc : Value} (h : LblBox w p x va vb vc) (l : List Int) (u : Value) : LblBox (w.setCell ⟨p, 7, none⟩ u) p { x with bo := l } va u vc := by
  have o : ∀ o, o ≠ 7 → (w.setCell ⟨p, 7, none⟩ u).cell? ⟨p, o, none⟩ = w.cell? ⟨p, o, none⟩ := fun o ho => World.cell?_setCell_other _ _ _ _ (fun e => ho (congrArg Addr.off e).symm)
  refine ⟨⟨?_, ?_, ?_, ?_, ?_, ?_, ?_, ?_, ?_, by simpa using h.a.lt⟩, fun o => by rw [World.frozen?_setCell]; exact h.f o⟩
  · rw [o 0 (by decide)]; exact h.a.c0
  · rw [o 1 (by decide)]; exact h.a.c1
  · rw [o 2 (by decide)]; exact h.a.c2
  · rw [o 3 (by decide)]; exact h.a.c3
  · rw [o 4 (by decide)]; exact h.a.c4
  · rw [o 5 (by decide)]; exact h.a.c5
  · rw [o 6 (by decide)]; exact h.a.c6
  · exact World.cell?_setCell_same' _ _ _ (by rw [h.a.c7]; rfl)
  · rw [o 8 (by decide)]; exact h.a.c8
theorem LblBox.row8 {w : World} {p : Nat} {x : Lbl} {va vb vc : Value} (h : LblBox w p x va vb vc) (l : List Int) (u : Value) : LblBox (w.setCell ⟨p, 8, none⟩ u) p { x with cu := l } va vb u := by
  have o : ∀ o, o ≠ 8 → (w.setCell ⟨p, 8, none⟩ u).cell? ⟨p, o, none⟩ = w.cell? ⟨p, o, none⟩ := fun o ho => World.cell?_setCell_other _ _ _ _ (fun e => ho (congrArg Addr.off e).symm)
  refine ⟨⟨?_, ?_, ?_, ?_, ?_, ?_, ?_, ?_, ?_, by simpa using h.a.lt⟩, fun o => by rw [World.frozen?_setCell]; exact h.f o⟩
  · rw [o 0 (by decide)]; exact h.a.c0
  · rw [o 1 (by decide)]; exact h.a.c1
  · rw [o 2 (by decide)]; exact h.a.c2
  · rw [o 3 (by decide)]; exact h.a.c3
  · rw [o 4 (by decide)]; exact h.a.c4
  · rw [o 5 (by decide)]; exact h.a.c5
  · rw [o 6 (by decide)]; exact h.a.c6
  · rw [o 7 (by decide)]; exact h.a.c7
  · exact World.cell?_setCell_same' _ _ _ (by rw [h.a.c8]; rfl)
theorem RdAt.heap {w w' : World} {b : Nat} {s : ByteArray} {bad : Bool} (h : RdAt w b s bad) (e : w'.heap[b]? = w.heap[b]?) (hs : w.heap.size ≤ w'.heap.size) : RdAt w' b s bad :=
  ⟨by rw [cell_of_heap e]; exact h.c0, by rw [cell_of_heap e]; exact h.c1, by rw [frozen_of_heap e]; exact h.f0, by rw [frozen_of_heap e]; exact h.f1, Nat.lt_of_lt_of_le h.lt hs⟩
theorem O3.rd {w w' : World} {B b : Nat} {s : ByteArray} {bad : Bool} {x : Lbl} {va vb vc : Value} (h : O3 w B x va vb vc) (hr : RdTo w b s bad w') (hb : b < B) : O3 w' B x va vb vc := h.heap fun k hk hl => hr.oth k hl (by omega)
theorem O3.nil (w : World) (B : Nat) (x : Lbl) (h1 : x.st = []) (h2 : x.bo = []) (h3 : x.cu = []) : O3 w B x (.slice none 0 0) (.slice none 0 0) (.slice none 0 0) :=
  ⟨by rw [h1]; exact Own.nil _ _ _, by rw [h2]; exact Own.nil _ _ _, by rw [h3]; exact Own.nil _ _ _, Apart.nil _, Apart.nil _, Apart.nil _⟩
theorem O3.set {w : World} {B p o : Nat} {x : Lbl} {va vb vc u : Value} (h : O3 w B x va vb vc) (hp : p < B) : O3 (w.setCell ⟨p, o, none⟩ u) B x va vb vc := h.heap fun k hk _ => Below.heap_setCell _ _ _ _ (by show k ≠ p; omega)
/-- One number more in a row of a box. -/
theorem push6 {w : World} {p : Nat} {x : Lbl} {va vb vc : Value} (hx : LblBox w p x va vb vc) (ho : O3 w (p + 1) x va vb vc) (n : Int) (hl : x.st.length ≤ 1000) :
    ∃ a cp w', (Builtin.append_ #[24, 24] 24 #[va, .slice (some ⟨w.heap.size, 0, none⟩) 1 1]).run Tryd.prog (w.alloc (.cells #[.int .i64 n] 3)) = .ok (.slice a (x.st.length + 1) cp) w' ∧ LblBox w' p x va vb vc ∧
      LblBox (w'.setCell ⟨p, 6, none⟩ (.slice a (x.st.length + 1) cp)) p { x with st := x.st ++ [n] } (.slice a (x.st.length + 1) cp) vb vc ∧ O3 (w'.setCell ⟨p, 6, none⟩ (.slice a (x.st.length + 1) cp)) (p + 1) { x with st := x.st ++ [n] } (.slice a (x.st.length + 1) cp) vb vc ∧
      Below p w (w'.setCell ⟨p, 6, none⟩ (.slice a (x.st.length + 1) cp)) := by
  obtain ⟨ib, hi, hz0, hz1, hz2⟩ := info_parts Tryd.infoI
  obtain ⟨v', w', hap, o', b', k', s'⟩ := Own.pushA (P := Tryd.prog) (T := 24) Tryd.underlying24 hi hz0 hz1 hz2 rfl ho.a (.int .i64 n) rfl hx.a.lt (by rw [List.length_map]; omega) (by rw [List.length_map]; omega)
  obtain ⟨a, cp, rfl⟩ := o'.isSlice
  rw [List.length_append, List.length_map, List.length_singleton] at hap o' s'
  have x' := hx.below b' (Nat.lt_succ_self p)
  refine ⟨a, cp, w', hap, x', x'.row6 _ _, ?_, (b'.mono (Nat.le_succ p)).setCell (p := ⟨p, 6, none⟩) (Nat.le_refl _) _⟩
  refine O3.set ⟨by rw [List.map_append]; exact o', ho.b.kept k' ho.ab.symm, ho.c.kept k' ho.ac.symm, (Apart.push ho.b ho.ab.symm s').symm, (Apart.push ho.c ho.ac.symm s').symm, ho.bc⟩ (Nat.lt_succ_self p)
/-- One number more in a row of a box. -/
theorem push7 {w : World} {p : Nat} {x : Lbl} {va vb vc : Value} (hx : LblBox w p x va vb vc) (ho : O3 w (p + 1) x va vb vc) (n : Int) (hl : x.bo.length ≤ 1000) :
    ∃ a cp w', (Builtin.append_ #[24, 24] 24 #[vb, .slice (some ⟨w.heap.size, 0, none⟩) 1 1]).run Tryd.prog (w.alloc (.cells #[.int .i64 n] 3)) = .ok (.slice a (x.bo.length + 1) cp) w' ∧ LblBox w' p x va vb vc ∧
      LblBox (w'.setCell ⟨p, 7, none⟩ (.slice a (x.bo.length + 1) cp)) p { x with bo := x.bo ++ [n] } va (.slice a (x.bo.length + 1) cp) vc ∧ O3 (w'.setCell ⟨p, 7, none⟩ (.slice a (x.bo.length + 1) cp)) (p + 1) { x with bo := x.bo ++ [n] } va (.slice a (x.bo.length + 1) cp) vc ∧
      Below p w (w'.setCell ⟨p, 7, none⟩ (.slice a (x.bo.length + 1) cp)) := by
  obtain ⟨ib, hi, hz0, hz1, hz2⟩ := info_parts Tryd.infoI
  obtain ⟨v', w', hap, o', b', k', s'⟩ := Own.pushA (P := Tryd.prog) (T := 24) Tryd.underlying24 hi hz0 hz1 hz2 rfl ho.b (.int .i64 n) rfl hx.a.lt (by rw [List.length_map]; omega) (by rw [List.length_map]; omega)
  obtain ⟨a, cp, rfl⟩ := o'.isSlice
  rw [List.length_append, List.length_map, List.length_singleton] at hap o' s'
  have x' := hx.below b' (Nat.lt_succ_self p)
  refine ⟨a, cp, w', hap, x', x'.row7 _ _, ?_, (b'.mono (Nat.le_succ p)).setCell (p := ⟨p, 7, none⟩) (Nat.le_refl _) _⟩
  refine O3.set ⟨ho.a.kept k' ho.ab, by rw [List.map_append]; exact o', ho.c.kept k' ho.bc.symm, Apart.push ho.a ho.ab s', ho.ac, (Apart.push ho.c ho.bc.symm s').symm⟩ (Nat.lt_succ_self p)
/-- One number more in a row of a box. -/
theorem push8 {w : World} {p : Nat} {x : Lbl} {va vb vc : Value} (hx : LblBox w p x va vb vc) (ho : O3 w (p + 1) x va vb vc) (n : Int) (hl : x.cu.length ≤ 1000) :
    ∃ a cp w', (Builtin.append_ #[24, 24] 24 #[vc, .slice (some ⟨w.heap.size, 0, none⟩) 1 1]).run Tryd.prog (w.alloc (.cells #[.int .i64 n] 3)) = .ok (.slice a (x.cu.length + 1) cp) w' ∧ LblBox w' p x va vb vc ∧
      LblBox (w'.setCell ⟨p, 8, none⟩ (.slice a (x.cu.length + 1) cp)) p { x with cu := x.cu ++ [n] } va vb (.slice a (x.cu.length + 1) cp) ∧ O3 (w'.setCell ⟨p, 8, none⟩ (.slice a (x.cu.length + 1) cp)) (p + 1) { x with cu := x.cu ++ [n] } va vb (.slice a (x.cu.length + 1) cp) ∧
      Below p w (w'.setCell ⟨p, 8, none⟩ (.slice a (x.cu.length + 1) cp)) := by
  obtain ⟨ib, hi, hz0, hz1, hz2⟩ := info_parts Tryd.infoI
  obtain ⟨v', w', hap, o', b', k', s'⟩ := Own.pushA (P := Tryd.prog) (T := 24) Tryd.underlying24 hi hz0 hz1 hz2 rfl ho.c (.int .i64 n) rfl hx.a.lt (by rw [List.length_map]; omega) (by rw [List.length_map]; omega)
  obtain ⟨a, cp, rfl⟩ := o'.isSlice
  rw [List.length_append, List.length_map, List.length_singleton] at hap o' s'
  have x' := hx.below b' (Nat.lt_succ_self p)
  refine ⟨a, cp, w', hap, x', x'.row8 _ _, ?_, (b'.mono (Nat.le_succ p)).setCell (p := ⟨p, 8, none⟩) (Nat.le_refl _) _⟩
  refine O3.set ⟨ho.a.kept k' ho.ac, ho.b.kept k' ho.bc, by rw [List.map_append]; exact o', ho.ab, Apart.push ho.a ho.ac s', Apart.push ho.b ho.bc s'⟩ (Nat.lt_succ_self p)
theorem th_snoc : ∀ (n : Nat) (t : List Int) (a b c : Int), t.length = 3 * n → th0 (t ++ [a, b, c]) = th0 t ++ [a] ∧ th1 (t ++ [a, b, c]) = th1 t ++ [b] ∧ th2 (t ++ [a, b, c]) = th2 t ++ [c]
  | 0, t, a, b, c, h => by obtain rfl : t = [] := List.eq_nil_of_length_eq_zero (by omega); exact ⟨rfl, rfl, rfl⟩
  | n + 1, x :: y :: z :: t, a, b, c, h => by
    obtain ⟨h1, h2, h3⟩ := th_snoc n t a b c (by simp at h; omega)
    simp only [List.cons_append, th0, th1, th2, h1, h2, h3]
    exact ⟨trivial, trivial, trivial⟩
  | n + 1, [], _, _, _, h => by simp at h <;> omega
  | n + 1, [_], _, _, _, h => by simp at h <;> omega
  | n + 1, [_, _], _, _, _, h => by simp at h <;> omega
theorem rList_tw (k : Nat) (q : RS) : rList (tW (k + 1)) q = rList (tW k) q ++ [((rNum (rListR (tW k) q) 1 : Nat) : Int), ((rNum (rNumR (rListR (tW k) q) 1) 6 : Nat) : Int), ((rNum (rNumR (rNumR (rListR (tW k) q) 1) 6) 1 : Nat) : Int)] ∧
    rListR (tW (k + 1)) q = rNumR (rNumR (rNumR (rListR (tW k) q) 1) 6) 1 := by
  rw [tW_snoc]
  obtain ⟨h1, h2⟩ := rList_append (tW k) [1, 6, 1] q
  exact ⟨by rw [h1]; rfl, by rw [h2]; rfl⟩
open Go.RowKit
set_option linter.unusedVariables false
set_option linter.unusedSimpArgs false
open Lb

/-- Where a place is not usable, 0. -/
def mask : List Bool → List Int → List Int
  | u :: us, a :: l => (if u then a else 0) :: mask us l
  | _, l => l
theorem mask_nil (l : List Int) : mask [] l = l := by cases l <;> rfl
theorem mask_len : ∀ (us : List Bool) (l : List Int), (mask us l).length = l.length
  | [], l => by rw [mask_nil]
  | _ :: _, [] => rfl
  | _ :: us, _ :: l => by simp only [mask, List.length_cons, mask_len us l]
theorem mask_true : ∀ (us : List Bool) (l : List Int) (k : Nat), k < us.length → us.getD k true = true → mask (us.take (k + 1)) l = mask (us.take k) l
  | u :: us, [], 0, _, _ => by simp [mask, mask_nil]
  | u :: us, a :: l, 0, _, h => by simp at h; simp [mask, mask_nil, h]
  | u :: us, [], k + 1, _, _ => by simp [mask]
  | u :: us, a :: l, k + 1, h, e => by simp only [List.take_succ_cons, mask]; rw [mask_true us l k (by simpa using h) (by simpa using e)]
  | [], _, _, h, _ => by simp at h
theorem mask_false : ∀ (us : List Bool) (l : List Int) (k : Nat), k < us.length → k < l.length → us.getD k true = false → mask (us.take (k + 1)) l = (mask (us.take k) l).set k 0
  | u :: us, a :: l, 0, _, _, h => by simp at h; simp [mask, mask_nil, h]
  | u :: us, a :: l, k + 1, h, h2, e => by simp only [List.take_succ_cons, mask, List.set_cons_succ]; rw [mask_false us l k (by simpa using h) (by simpa using h2) (by simpa using e)]
  | u :: us, [], _, _, h, _ => by simp at h
  | [], _, _, h, _, _ => by simp at h
theorem mask_get : ∀ (us : List Bool) (l : List Int) (k : Nat), us.length = l.length → k < l.length → (mask us l).getD k 0 = if us.getD k true then l.getD k 0 else 0
  | u :: us, a :: l, 0, _, _ => by cases u <;> simp [mask]
  | u :: us, a :: l, k + 1, h, h2 => by have := mask_get us l k (by simpa using h) (by simpa using h2); simpa [mask] using this
  | _, [], _, _, h => by simp at h
  | [], _ :: _, _, h, _ => by simp at h
theorem mask_map (us : List Bool) (l : List Int) (k : Nat) : ((mask us l).map (Value.int .i64)).set k (.int .i64 0) = ((mask us l).set k 0).map (.int .i64) := by rw [List.map_set]
def nxB (x : Lbl) (us : List Bool) : Bool := rightB x && (!(x.g == 1099511627776) && decide (us.length = x.st.length))
def nexted (x : Lbl) (us : List Bool) : Lbl := { x with g := x.g + 1, st := mask us x.st, cu := mask us x.cu }
def nextL (x : Lbl) (us : List Bool) : Lbl := if nxB x us then nexted x us else noLbl
def nextE (x : Lbl) (us : List Bool) : Int := if nxB x us then 0 else 100
/-- An answer of a label and a number, in memory of the call's own. -/
def GivesN (w : World) (x : Lbl) (n : Int) (e : Ending) (w' : World) : Prop := ∃ va vb vc, e = .returned (.tuple #[x.v va vb vc, .int .i64 n]) ∧ O3 w' w.heap.size x va vb vc ∧ Below w.heap.size w w'
/-- What holds ahead of round k: a box q, whose rows stand elsewhere. -/
structure NIn (w : World) (p q B : Nat) (y : Lbl) (ga gb gc n ca cb cc : Nat) (us : List Bool) (k : Nat) (wr : World) : Prop where
  x : LblBox wr q { y with st := mask (us.take k) y.st, cu := mask (us.take k) y.cu } (.slice (some ⟨ga, 0, none⟩) n ca) (.slice (some ⟨gb, 0, none⟩) n cb) (.slice (some ⟨gc, 0, none⟩) n cc)
  o : O3 wr B { y with st := mask (us.take k) y.st, cu := mask (us.take k) y.cu } (.slice (some ⟨ga, 0, none⟩) n ca) (.slice (some ⟨gb, 0, none⟩) n cb) (.slice (some ⟨gc, 0, none⟩) n cc)
  z : LblBox wr (p + 1) noLbl (.slice none 0 0) (.slice none 0 0) (.slice none 0 0)
  b : Below p w wr
theorem LblBox.far {w : World} {p g i : Nat} {x : Lbl} {va vb vc u : Value} (h : LblBox w p x va vb vc) (hne : p ≠ g) : LblBox (w.setCell ⟨g, i, none⟩ u) p x va vb vc := h.heap (Below.heap_setCell _ _ _ _ hne) (by simp)
/-- A round in which a place is not usable. -/
theorem NIn.zero {w : World} {p q B : Nat} {y : Lbl} {ga gb gc n ca cb cc : Nat} {us : List Bool} {k : Nat} {wr : World} (h : NIn w p q B y ga gb gc n ca cb cc us k wr) (hk : k < us.length) (h1 : y.st.length = us.length) (h2 : y.cu.length = us.length) (hf : us.getD k true = false)
    (hqa : q ≠ ga) (hqc : q ≠ gc) (hpa : p + 2 ≤ ga) (hpc : p + 2 ≤ gc) : NIn w p q B y ga gb gc n ca cb cc us (k + 1) ((wr.setCell ⟨ga, k, none⟩ (.int .i64 0)).setCell ⟨gc, k, none⟩ (.int .i64 0)) := by
  have e1 := mask_false us y.st k hk (by omega) hf
  have e2 := mask_false us y.cu k hk (by omega) hf
  have hab : ga ≠ gb := fun e => h.o.ab ga rfl (by rw [e]; rfl)
  have hac : ga ≠ gc := fun e => h.o.ac ga rfl (by rw [e]; rfl)
  have hbc : gb ≠ gc := fun e => h.o.bc gb rfl (by rw [e]; rfl)
  have oa := h.o.a.set k (.int .i64 0)
  rw [mask_map] at oa
  have ob := h.o.b.setOther (a := ⟨ga, k, none⟩) (by show some gb ≠ some ga; simpa using Ne.symm hab) (.int .i64 0)
  have oc := h.o.c.setOther (a := ⟨ga, k, none⟩) (by show some gc ≠ some ga; simpa using Ne.symm hac) (.int .i64 0)
  have oa2 := oa.setOther (a := ⟨gc, k, none⟩) (by show some ga ≠ some gc; simpa using hac) (.int .i64 0)
  have ob2 := ob.setOther (a := ⟨gc, k, none⟩) (by show some gb ≠ some gc; simpa using hbc) (.int .i64 0)
  have oc2 := oc.set k (.int .i64 0)
  rw [mask_map] at oc2
  have xx := (h.x.far (i := k) (u := .int .i64 0) hqa).far (i := k) (u := .int .i64 0) hqc
  refine ⟨?_, ?_, (h.z.far (by omega)).far (by omega), (h.b.setCell (p := ⟨ga, k, none⟩) (by show p ≤ ga; omega) _).setCell (p := ⟨gc, k, none⟩) (by show p ≤ gc; omega) _⟩
  · exact ⟨⟨xx.a.c0, xx.a.c1, xx.a.c2, xx.a.c3, xx.a.c4, xx.a.c5, xx.a.c6, xx.a.c7, xx.a.c8, xx.a.lt⟩, xx.f⟩
  · rw [e1, e2]
    exact ⟨oa2, ob2, oc2, h.o.ab, h.o.ac, h.o.bc⟩
theorem NIn.keep {w : World} {p q B : Nat} {y : Lbl} {ga gb gc n ca cb cc : Nat} {us : List Bool} {k : Nat} {wr : World} (h : NIn w p q B y ga gb gc n ca cb cc us k wr) (hk : k < us.length) (hf : us.getD k true = true) : NIn w p q B y ga gb gc n ca cb cc us (k + 1) wr := by
  have e1 := mask_true us y.st k hk hf
  have e2 := mask_true us y.cu k hk hf
  refine ⟨?_, ?_, h.z, h.b⟩
  · rw [e1, e2]; exact h.x
  · rw [e1, e2]; exact h.o
theorem NIn.drew {w : World} {p q B : Nat} {y : Lbl} {ga gb gc n ca cb cc : Nat} {us : List Bool} {k : Nat} {wr : World} (h : NIn w p q B y ga gb gc n ca cb cc us k wr) : NIn w p q B y ga gb gc n ca cb cc us k wr.drew :=
  ⟨⟨⟨h.x.a.c0, h.x.a.c1, h.x.a.c2, h.x.a.c3, h.x.a.c4, h.x.a.c5, h.x.a.c6, h.x.a.c7, h.x.a.c8, h.x.a.lt⟩, h.x.f⟩, ⟨h.o.a.drew, h.o.b.drew, h.o.c.drew, h.o.ab, h.o.ac, h.o.bc⟩, ⟨⟨h.z.a.c0, h.z.a.c1, h.z.a.c2, h.z.a.c3, h.z.a.c4, h.z.a.c5, h.z.a.c6, h.z.a.c7, h.z.a.c8, h.z.a.lt⟩, h.z.f⟩, h.b.drew⟩
end Go.Proofs.YtaopknddpagjeaaDoor
