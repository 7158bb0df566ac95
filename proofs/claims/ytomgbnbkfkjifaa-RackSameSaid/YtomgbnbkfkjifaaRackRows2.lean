/- rack: two rows of rows of texts of the law's own. -/
import Derived.Test.YtomgbnbkfkjifaaRackLaw1
import Derived.Test.YtomgbnbkfkjifaaSl3
namespace Go.Proofs.Ytomgbnbkfkjifaa
open Go.RowKit
set_option linter.unusedVariables false
set_option linter.unusedSimpArgs false
set_option maxRecDepth 100000

theorem crL_nil (L : List ByteArray) (V : Int → List ByteArray) (P : List Int) : ∀ k, crL L V [] P k = L
  | 0 => rfl
  | k + 1 => by
    have h : chJ V [] P k = 0 := by
      unfold chJ chAt
      have e : pickC (List.getD ([] : List Int) k 0) = 0 := by simp [pickC]
      rw [e]; exact Nat.zero_mod _
    unfold crL
    rw [if_pos h]; exact crL_nil L V P k
theorem crash_nil (L : List ByteArray) (V : Int → List ByteArray) : crash L V [] = L := crL_nil L V _ _
theorem flush_write (L : List ByteArray) (V : Int → List ByteArray) (a : Nat) (ha : a < L.length) (s : ByteArray) : flush L (updZ V (a : Int) (V (a : Int) ++ [s])) = (flush L V).set a s := by
  unfold flush flL
  apply List.ext_getElem?
  intro j
  rw [List.getElem?_set]
  by_cases hj : j < L.length
  · by_cases h : a = j
    · subst h
      rw [if_pos rfl, if_pos (by simp; omega), List.getElem?_map, List.getElem?_range hj, Option.map_some, updZ_same]
      simp [lastOf]
    · rw [if_neg h, List.getElem?_map, List.getElem?_range hj, List.getElem?_map, List.getElem?_range hj, Option.map_some, Option.map_some, updZ_other _ _ _ _ (by omega)]
  · rw [if_neg (by omega), List.getElem?_eq_none (by simp; omega), List.getElem?_eq_none (by simp; omega)]
/-- Rows of texts of one's own, each in memory of its own, none of them x, y or in S. -/
structure Rw6 (w : World) (B n : Nat) (S : Nat → Prop) (x y : Nat) (U : Nat → Value) (D : Nat → List ByteArray) : Prop where
  r : ∀ i, i < n → Own w B 9 (U i) ((D i).map .string)
  ap : ∀ i j, i < n → j < n → i ≠ j → Apart (U i) (U j)
  nb : ∀ i, i < n → ∀ k, (U i).ownBlock = some k → ¬ S k ∧ k ≠ x ∧ k ≠ y
section
variable {w w2 : World} {B n x y : Nat} {S S' : Nat → Prop} {U : Nat → Value} {D : Nat → List ByteArray}
theorem Rw6.after (h : Rw6 w B n S x y U D) (hb : Below w.heap.size w w2) : Rw6 w2 B n S x y U D := ⟨fun i hi => (h.r i hi).after hb, h.ap, h.nb⟩
theorem Rw6.step (h : Rw6 w B n S x y U D) (hs : Stp S S' w w2) : Rw6 w2 B n S' x y U D :=
  ⟨fun i hi => (h.r i hi).sameAt fun k hk => hs.oth k ((h.r i hi).o.lt k hk).2 (h.nb i hi k hk).1, h.ap, fun i hi k hk => ⟨fun hs' => by
    rcases hs.grow k hs' with z | z
    · exact (h.nb i hi k hk).1 z
    · have := ((h.r i hi).o.lt k hk).2; omega, (h.nb i hi k hk).2⟩⟩
theorem Rw6.put (h : Rw6 w B n S x y U D) (hB : B ≤ w.heap.size) (hb : Below w.heap.size w w2) {v : Value} {l : List ByteArray} (ho : Own w2 w.heap.size 9 v (l.map .string)) (hS : ∀ b, S b → b < w.heap.size) (hx : x < w.heap.size) (hy : y < w.heap.size) (i : Nat) : Rw6 w2 B n S x y (upd U i v) (upd D i l) := by
  have h2 := h.after hb
  have far : ∀ j, j < n → Apart (U j) v := fun j hj k hk e => by have := ((h.r j hj).o.lt k hk).2; have := (ho.o.lt k e).1; omega
  refine ⟨fun j hj => ?_, fun a b ha hb' hne => ?_, fun j hj k hk => ?_⟩
  · by_cases e : j = i
    · subst e; rw [upd_same, upd_same]; exact ho.mono hB
    · rw [upd_other _ _ _ _ e, upd_other _ _ _ _ e]; exact h2.r j hj
  · by_cases e : a = i
    · subst e; rw [upd_same, upd_other _ _ _ _ (Ne.symm hne)]; exact (far b hb').symm
    · rw [upd_other _ _ _ _ e]
      by_cases e2 : b = i
      · subst e2; rw [upd_same]; exact far a ha
      · rw [upd_other _ _ _ _ e2]; exact h.ap a b ha hb' hne
  · by_cases e : j = i
    · subst e; rw [upd_same] at hk
      have := (ho.o.lt k hk).1
      exact ⟨fun hs => by have := hS k hs; omega, by omega, by omega⟩
    · rw [upd_other _ _ _ _ e] at hk; exact h.nb j hj k hk
theorem Rw6.setO (h : Rw6 w B n S x y U D) {z : Nat} (hz : z = x ∨ z = y) (o : Nat) (u : Value) : Rw6 (w.setCell ⟨z, o, none⟩ u) B n S x y U D :=
  ⟨fun i hi => (h.r i hi).sameAt fun k hk => Below.heap_setCell _ _ _ _ (fun e => by
    have e2 : k = z := e
    rcases hz with q | q
    · exact (h.nb i hi k hk).2.1 (e2.trans q)
    · exact (h.nb i hi k hk).2.2 (e2.trans q)), h.ap, h.nb⟩
theorem Rw6.setI (h : Rw6 w B n S x y U D) {i g m c : Nat} (hi : i < n) (hU : U i = .slice (some ⟨g, 0, none⟩) m c) (a : Nat) (s : ByteArray) : Rw6 (w.setCell ⟨g, a, none⟩ (.string s)) B n S x y U (upd D i ((D i).set a s)) := by
  refine ⟨fun j hj => ?_, h.ap, h.nb⟩
  by_cases e : j = i
  · subst e
    rw [upd_same, List.map_set]
    have := h.r j hj
    rw [hU] at this ⊢
    exact this.set a _
  · rw [upd_other _ _ _ _ e]
    exact (h.r j hj).sameAt fun k hk => Below.heap_setCell _ _ _ _ (fun e2 => h.ap j i hj hi e k hk (by rw [hU]; have e3 : k = g := e2; rw [e3]; rfl))
end
/-- Both rows. -/
structure TB (w : World) (B : Nat) (S : Nat → Prop) (x y : Nat) (D : Nat → List ByteArray) : Prop where
  h : ∃ U, Own w B 44 (.slice (some ⟨x, 0, none⟩) 3 3) (rowV 3 U) ∧ Own w B 44 (.slice (some ⟨y, 0, none⟩) 3 3) (rowV 3 fun i => U (3 + i)) ∧ Rw6 w B 6 S x y U D
  sx : ¬ S x
  sy : ¬ S y
  xy : x ≠ y
section
variable {w w2 : World} {B x y : Nat} {S S' : Nat → Prop} {D : Nat → List ByteArray}
theorem TB.lt (h : TB w B S x y D) : (B ≤ x ∧ x < w.heap.size) ∧ B ≤ y ∧ y < w.heap.size := by obtain ⟨U, h1, h2, _⟩ := h.h; exact ⟨h1.lt, h2.lt⟩
theorem TB.after (h : TB w B S x y D) (hb : Below w.heap.size w w2) : TB w2 B S x y D := by
  obtain ⟨U, h1, h2, h3⟩ := h.h
  exact ⟨⟨U, h1.after hb, h2.after hb, h3.after hb⟩, h.sx, h.sy, h.xy⟩
theorem TB.step (h : TB w B S x y D) (hs : Stp S S' w w2) : TB w2 B S' x y D := by
  obtain ⟨U, h1, h2, h3⟩ := h.h
  have old : ∀ k, k < w.heap.size → ¬ S k → ¬ S' k := fun k hk hn hs' => by
    rcases hs.grow k hs' with z | z
    · exact hn z
    · omega
  exact ⟨⟨U, h1.sameBlock (hs.oth x h1.lt.2 h.sx), h2.sameBlock (hs.oth y h2.lt.2 h.sy), h3.step hs⟩, old x h1.lt.2 h.sx, old y h2.lt.2 h.sy, h.xy⟩
theorem TB.congr {E : Nat → List ByteArray} (h : TB w B S x y D) (e : ∀ i, i < 6 → E i = D i) : TB w B S x y E := by
  obtain ⟨U, h1, h2, h3⟩ := h.h
  exact ⟨⟨U, h1, h2, ⟨fun i hi => by rw [e i hi]; exact h3.r i hi, h3.ap, h3.nb⟩⟩, h.sx, h.sy, h.xy⟩
theorem TB.at1 (h : TB w B S x y D) {i : Nat} (hi : i < 3) : ∃ u, w.cell? ⟨x, i, none⟩ = some u ∧ Own w B 9 u ((D i).map .string) := by
  obtain ⟨U, h1, h2, h3⟩ := h.h
  exact ⟨U i, by rw [h1.cell (i := i) (by rw [rowV_len]; exact hi), rowV_get _ _ _ hi], h3.r i (by omega)⟩
theorem TB.at2 (h : TB w B S x y D) {i : Nat} (hi : i < 3) : ∃ u, w.cell? ⟨y, i, none⟩ = some u ∧ Own w B 9 u ((D (3 + i)).map .string) ∧ ∀ k, u.ownBlock = some k → ¬ S k := by
  obtain ⟨U, h1, h2, h3⟩ := h.h
  exact ⟨U (3 + i), by rw [h2.cell (i := i) (by rw [rowV_len]; exact hi), rowV_get _ _ _ hi], h3.r (3 + i) (by omega), fun k hk => (h3.nb (3 + i) (by omega) k hk).1⟩
theorem TB.f1 (h : TB w B S x y D) (i : Nat) : w.frozen? ⟨x, i, none⟩ = false := by obtain ⟨U, h1, _⟩ := h.h; exact h1.frozen i
theorem TB.f2 (h : TB w B S x y D) (i : Nat) : w.frozen? ⟨y, i, none⟩ = false := by obtain ⟨U, _, h2, _⟩ := h.h; exact h2.frozen i
theorem TB.put1 (h : TB w B S x y D) (hB : B ≤ w.heap.size) (hb : Below w.heap.size w w2) {v : Value} {l : List ByteArray} (ho : Own w2 w.heap.size 9 v (l.map .string)) (hS : ∀ b, S b → b < w.heap.size) {i : Nat} (hi : i < 3) :
    TB (w2.setCell ⟨x, i, none⟩ v) B S x y (upd D i l) := by
  obtain ⟨U, h1, h2, h3⟩ := h.h
  have p := h3.put hB hb ho hS h1.lt.2 h2.lt.2 i
  refine ⟨⟨upd U i v, ?_, ?_, p.setO (.inl rfl) i v⟩, h.sx, h.sy, h.xy⟩
  · rw [← rowV_set 3 U (upd U i v) i _ (upd_same _ _ _) (fun j hj => upd_other _ _ _ _ hj)]
    exact (h1.after hb).set i v
  · have e : rowV 3 (fun j => upd U i v (3 + j)) = rowV 3 fun j => U (3 + j) := by
      unfold rowV
      exact List.map_congr_left fun j hj => upd_other _ _ _ _ (by omega)
    rw [e]
    exact (h2.after hb).sameBlock (Below.heap_setCell _ _ _ _ (Ne.symm h.xy))
theorem TB.put2 (h : TB w B S x y D) (hB : B ≤ w.heap.size) (hb : Below w.heap.size w w2) {v : Value} {l : List ByteArray} (ho : Own w2 w.heap.size 9 v (l.map .string)) (hS : ∀ b, S b → b < w.heap.size) {i : Nat} (hi : i < 3) :
    TB (w2.setCell ⟨y, i, none⟩ v) B S x y (upd D (3 + i) l) := by
  obtain ⟨U, h1, h2, h3⟩ := h.h
  have p := h3.put hB hb ho hS h1.lt.2 h2.lt.2 (3 + i)
  refine ⟨⟨upd U (3 + i) v, ?_, ?_, p.setO (.inr rfl) i v⟩, h.sx, h.sy, h.xy⟩
  · have e : rowV 3 (upd U (3 + i) v) = rowV 3 U := by
      unfold rowV
      exact List.map_congr_left fun j hj => upd_other _ _ _ _ (by have := List.mem_range.1 hj; omega)
    rw [e]
    exact (h1.after hb).sameBlock (Below.heap_setCell _ _ _ _ h.xy)
  · rw [← rowV_set 3 (fun j => U (3 + j)) (fun j => upd U (3 + i) v (3 + j)) i v (upd_same _ _ _) (fun j hj => upd_other _ _ _ _ (by omega))]
    exact (h2.after hb).set i v
theorem TB.set2 (h : TB w B S x y D) {i : Nat} (hi : i < 3) (a : Nat) (ha : a < (D (3 + i)).length) (s : ByteArray) :
    ∃ g c o, w.cell? ⟨y, i, none⟩ = some (.slice (some ⟨g, 0, none⟩) (D (3 + i)).length c) ∧ w.cell? ⟨g, a, none⟩ = some o ∧ w.frozen? ⟨g, a, none⟩ = false ∧ B ≤ g ∧ ¬ S g ∧ TB (w.setCell ⟨g, a, none⟩ (.string s)) B S x y (upd D (3 + i) ((D (3 + i)).set a s)) := by
  obtain ⟨U, h1, h2, h3⟩ := h.h
  have hr := h3.r (3 + i) (by omega)
  obtain ⟨g, c, hU, hg, _⟩ := hr.form (by rw [List.length_map]; omega)
  rw [List.length_map] at hU
  have nb := h3.nb (3 + i) (by omega) g (by rw [hU]; rfl)
  rw [hU] at hr
  refine ⟨g, c, _, by rw [h2.cell (i := i) (by rw [rowV_len]; exact hi), rowV_get _ _ _ hi, hU], hr.cell (i := a) (by rw [List.length_map]; exact ha), hr.frozen a, hg, nb.1, ⟨⟨U, ?_, ?_, h3.setI (by omega) hU a s⟩, h.sx, h.sy, h.xy⟩⟩
  · exact h1.sameBlock (Below.heap_setCell _ _ _ _ (Ne.symm nb.2.1))
  · exact h2.sameBlock (Below.heap_setCell _ _ _ _ (Ne.symm nb.2.2))
end
/-- A row is copied. -/
theorem copy_row {w : World} {u : Value} {l : List ByteArray} (h : Reads w u (l.map .string)) (hl : l.length ≤ 1000) (h0 : 0 < l.length) :
    ∃ g c w', (Builtin.append_ #[44, 44] 44 #[.slice none 0 0, u]).run Try.prog w = .ok (.slice (some ⟨g, 0, none⟩) l.length c) w' ∧ Own w' w.heap.size 9 (.slice (some ⟨g, 0, none⟩) l.length c) (l.map .string) ∧ Below w.heap.size w w' := by
  obtain ⟨si, s1, s2, s3, s4⟩ := str_is9
  obtain ⟨v', w', hap, ho, hb, _⟩ := Own.pushAll (P := Try.prog) (T := 44) Try.underlying44 s1 s2 s3 s4 rfl (Own.nil w w.heap.size 9) h (fun x hx => by obtain ⟨t, _, rfl⟩ := List.mem_map.1 hx; rfl) (Nat.le_refl _) (by rw [List.length_map]; simp; omega) (by rw [List.length_map]; simp; omega)
  rw [List.nil_append] at ho
  obtain ⟨g, c, e, _, _⟩ := ho.form (by rw [List.length_map]; exact h0)
  rw [List.length_map] at e
  subst e
  exact ⟨g, c, w', hap, ho, hb⟩
end Go.Proofs.Ytomgbnbkfkjifaa

