/- member: what lasts and what was written since, in the law's own memory. -/
import Derived.Test.YtbokglifgacodaaMemLaw3
namespace Go.Proofs.Ytbokglifgacodaa
open Go.RowKit
set_option linter.unusedVariables false
set_option linter.unusedSimpArgs false

theorem Own.sameAt {w w' : World} {B : Nat} {T : TypeId} {v : Value} {l : List Value} (h : Own w B T v l) (hk : ∀ k, v.ownBlock = some k → w'.heap[k]? = w.heap[k]?) : Own w' B T v l := by
  refine ⟨h.o.1, ?_⟩
  rcases h.o.2 with h1 | ⟨g, cap, cur, h1, h2, h3, h4⟩
  · exact .inl h1
  · exact .inr ⟨g, cap, cur, h1, h2, by rw [hk g (by rw [h1]; rfl)]; exact h3, h4⟩
theorem MS.other {w w1 w2 : World} {S : Nat → Prop} {m g bp cap : Nat} {fd : Bool} {L : List ByteArray} {V : Int → List ByteArray} (h : MS w S w1 m g bp cap fd L V) (hb : Below w.heap.size w1 w2) (hk : ∀ k, S k → w2.heap[k]? = w1.heap[k]?) : MS w S w2 m g bp cap fd L V := by
  obtain ⟨F, h1, h2⟩ := h.h
  exact ⟨h.b.trans hb, F, h1, h2.heap hk hb.size⟩
/-- Rows of texts of one's own, one for each of n places, each in memory of its own, none of them y or in S. -/
structure Rws (w : World) (B n : Nat) (S : Nat → Prop) (x y : Nat) (U : Nat → Value) (D : Nat → List ByteArray) : Prop where
  r : ∀ i, i < n → Own w B 9 (U i) ((D i).map .string)
  ap : ∀ i j, i < n → j < n → i ≠ j → Apart (U i) (U j)
  nb : ∀ i, i < n → ∀ k, (U i).ownBlock = some k → ¬ S k ∧ k ≠ x ∧ k ≠ y
/-- What lasts (block x) and what was written since (block y and its rows). -/
structure SB (w : World) (B : Nat) (S : Nat → Prop) (x y : Nat) (l : List ByteArray) (D : Nat → List ByteArray) : Prop where
  h : ∃ U, Own w B 47 (.slice (some ⟨y, 0, none⟩) 8 8) (rowV 8 U) ∧ Rws w B 8 S x y U D
  lx : Own w B 9 (.slice (some ⟨x, 0, none⟩) 8 8) (l.map .string)
  n : l.length = 8
  sx : ¬ S x
  sy : ¬ S y
  xy : x ≠ y
def updN {α : Type} (f : Nat → α) (i : Nat) (v : α) : Nat → α := fun j => if j = i then v else f j
theorem updN_same {α : Type} (f : Nat → α) (i : Nat) (v : α) : updN f i v i = v := if_pos rfl
theorem updN_other {α : Type} (f : Nat → α) (i j : Nat) (v : α) (h : j ≠ i) : updN f i v j = f j := if_neg h
section
variable {w w' : World} {B x y : Nat} {S S' : Nat → Prop} {l : List ByteArray} {D : Nat → List ByteArray}
theorem SB.from (h : SB w B S x y l D) : B ≤ x ∧ B ≤ y := ⟨h.lx.lt.1, by obtain ⟨U, h1, _⟩ := h.h; exact h1.lt.1⟩
theorem SB.lt (h : SB w B S x y l D) : x < w.heap.size ∧ y < w.heap.size := ⟨h.lx.lt.2, by obtain ⟨U, h1, _⟩ := h.h; exact h1.lt.2⟩
theorem SB.after (h : SB w B S x y l D) (hb : Below w.heap.size w w') : SB w' B S x y l D := by
  obtain ⟨U, h1, h2⟩ := h.h
  exact ⟨⟨U, h1.after hb, fun i hi => (h2.r i hi).after hb, h2.ap, h2.nb⟩, h.lx.after hb, h.n, h.sx, h.sy, h.xy⟩
theorem SB.step (h : SB w B S x y l D) (hs : Stp S S' w w') : SB w' B S' x y l D := by
  obtain ⟨U, h1, h2⟩ := h.h
  have old : ∀ k, k < w.heap.size → ¬ S k → ¬ S' k := fun k hk hn hs' => by
    rcases hs.grow k hs' with z | z
    · exact hn z
    · omega
  exact ⟨⟨U, h1.sameBlock (hs.oth y h.lt.2 h.sy), fun i hi => (h2.r i hi).sameAt fun k hk => hs.oth k ((h2.r i hi).o.lt k hk).2 (h2.nb i hi k hk).1, h2.ap,
    fun i hi k hk => ⟨old k ((h2.r i hi).o.lt k hk).2 (h2.nb i hi k hk).1, (h2.nb i hi k hk).2⟩⟩, h.lx.sameBlock (hs.oth x h.lt.1 h.sx), h.n, old x h.lt.1 h.sx, old y h.lt.2 h.sy, h.xy⟩
theorem SB.congr {E : Nat → List ByteArray} (h : SB w B S x y l D) (he : ∀ i, i < 8 → E i = D i) : SB w B S x y l E := by
  obtain ⟨U, h1, h2⟩ := h.h
  exact ⟨⟨U, h1, fun i hi => by rw [he i hi]; exact h2.r i hi, h2.ap, h2.nb⟩, h.lx, h.n, h.sx, h.sy, h.xy⟩
theorem SB.cx (h : SB w B S x y l D) {i : Nat} (hi : i < 8) : w.cell? ⟨x, i, none⟩ = some (.string (l.getD i zero128)) := by
  have hn := h.n
  rw [h.lx.cell (i := i) (by rw [List.length_map]; omega), List.getD_eq_getElem?_getD, List.getElem?_map, List.getElem?_eq_getElem (by omega), List.getD_eq_getElem?_getD, List.getElem?_eq_getElem (by omega)]; rfl
theorem SB.fx (h : SB w B S x y l D) (i : Nat) : w.frozen? ⟨x, i, none⟩ = false := h.lx.frozen i
theorem SB.fy (h : SB w B S x y l D) (i : Nat) : w.frozen? ⟨y, i, none⟩ = false := by obtain ⟨U, h1, _⟩ := h.h; exact h1.frozen i
/-- What stands at place i. -/
theorem SB.at (h : SB w B S x y l D) {i : Nat} (hi : i < 8) : ∃ u, w.cell? ⟨y, i, none⟩ = some u ∧ Own w B 9 u ((D i).map .string) := by
  obtain ⟨U, h1, h2⟩ := h.h
  refine ⟨U i, ?_, h2.r i hi⟩
  rw [h1.cell (i := i) (by rw [rowV_len]; exact hi), rowV_get _ _ _ hi]
theorem SB.setX (h : SB w B S x y l D) {i : Nat} (s : ByteArray) : SB (w.setCell ⟨x, i, none⟩ (.string s)) B S x y (l.set i s) D := by
  obtain ⟨U, h1, h2⟩ := h.h
  have k5 : ∀ k, k ≠ x → (w.setCell ⟨x, i, none⟩ (.string s)).heap[k]? = w.heap[k]? := fun k hk => Below.heap_setCell _ _ _ _ hk
  exact ⟨⟨U, h1.sameBlock (k5 y (Ne.symm h.xy)), fun j hj => (h2.r j hj).sameAt fun k hk => k5 k (h2.nb j hj k hk).2.1, h2.ap, h2.nb⟩, by rw [List.map_set]; exact h.lx.set i _, by rw [List.length_set]; exact h.n, h.sx, h.sy, h.xy⟩
theorem SB.nilY (h : SB w B S x y l D) {i : Nat} (hi : i < 8) : SB (w.setCell ⟨y, i, none⟩ (.slice none 0 0)) B S x y l (updN D i []) := by
  obtain ⟨U, h1, h2⟩ := h.h
  have k5 : ∀ k, k ≠ y → (w.setCell ⟨y, i, none⟩ (.slice none 0 0)).heap[k]? = w.heap[k]? := fun k hk => Below.heap_setCell _ _ _ _ hk
  refine ⟨⟨updN U i (.slice none 0 0), ?_, fun j hj => ?_, fun j k hj hk hne => ?_, fun j hj k hk => ?_⟩, h.lx.sameBlock (k5 x h.xy), h.n, h.sx, h.sy, h.xy⟩
  · rw [← rowV_set 8 U (updN U i (.slice none 0 0)) i _ (updN_same _ _ _) (fun j hj => updN_other _ _ _ _ hj)]
    exact h1.set i _
  · by_cases e : j = i
    · subst e; rw [updN_same, updN_same]; exact Own.nil _ _ _
    · rw [updN_other _ _ _ _ e, updN_other _ _ _ _ e]; exact (h2.r j hj).sameAt fun k hk => k5 k (h2.nb j hj k hk).2.2
  · by_cases e : j = i
    · subst e; rw [updN_same]; exact Apart.nil _
    · by_cases e2 : k = i
      · subst e2; rw [updN_same]; exact (Apart.nil _).symm
      · rw [updN_other _ _ _ _ e, updN_other _ _ _ _ e2]; exact h2.ap j k hj hk hne
  · by_cases e : j = i
    · subst e; rw [updN_same] at hk; cases hk
    · rw [updN_other _ _ _ _ e] at hk; exact h2.nb j hj k hk
theorem str_isX : ∃ i, Try.prog.info? 9 = some i ∧ i.zero = some (.string ⟨#[]⟩) ∧ i.size = 1 ∧ i.bytes = 16 := (cont_gen (P := Try.prog) (t := 9) (c := .string ⟨#[]⟩) (n := 1) (k := 16) (by kernel_rfl)).2
/-- A text is appended at place i. -/
theorem SB.push (h : SB w B S x y l D) (hB : B ≤ w.heap.size) {i : Nat} (hi : i < 8) (s : ByteArray) (hn : (D i).length ≤ 1000) (hS : ∀ k, S k → k < w.heap.size) :
    ∃ u v' w', w.cell? ⟨y, i, none⟩ = some u ∧ (∃ a n c, v' = .slice a n c) ∧ (Builtin.append_ #[47, 47] 47 #[u, .slice (some ⟨w.heap.size, 0, none⟩) 1 1]).run Try.prog (w.alloc (.cells #[.string s] 9)) = .ok v' w' ∧
      w'.cell? ⟨y, i, none⟩ = some u ∧ w'.frozen? ⟨y, i, none⟩ = false ∧
      SB (w'.setCell ⟨y, i, none⟩ v') B S x y l (updN D i (D i ++ [s])) ∧ Below B w (w'.setCell ⟨y, i, none⟩ v') ∧ ∀ k, S k → (w'.setCell ⟨y, i, none⟩ v').heap[k]? = w.heap[k]? := by
  obtain ⟨U, h1, h2⟩ := h.h
  obtain ⟨si, s1, s2, s3, s4⟩ := str_isX
  obtain ⟨v', w', hap, ho, hb, hk, hv⟩ := Own.pushA (P := Try.prog) (T := 47) Try.underlying47 s1 s2 s3 s4 rfl (h2.r i hi) (.string s) rfl hB (by rw [List.length_map]; omega) (by rw [List.length_map]; omega)
  have e1 : (D i).map Value.string ++ [.string s] = (D i ++ [s]).map .string := by rw [List.map_append]; rfl
  rw [e1] at ho
  have yl := h1.lt
  have xl := h.lx.lt
  have k5 : ∀ k, k ≠ y → (w'.setCell ⟨y, i, none⟩ v').heap[k]? = w'.heap[k]? := fun k hk => Below.heap_setCell _ _ _ _ hk
  have ky : w'.heap[y]? = w.heap[y]? := hk y yl.2 (fun e => (h2.nb i hi y e).2.2 rfl)
  have kx : w'.heap[x]? = w.heap[x]? := hk x xl.2 (fun e => (h2.nb i hi x e).2.1 rfl)
  have h1' := h1.sameBlock ky
  have hcell : w.cell? ⟨y, i, none⟩ = some (U i) := by rw [h1.cell (i := i) (by rw [rowV_len]; exact hi), rowV_get _ _ _ hi]
  have vnew : ∀ k, v'.ownBlock = some k → (U i).ownBlock = some k ∨ k = w.heap.size + 1 := fun k e => by
    rcases hv with z | z
    · exact .inl (by rw [← z]; exact e)
    · rw [z] at e; injection e with e; exact .inr e.symm
  obtain ⟨gv, cv, ev, _, _⟩ := ho.form (by simp)
  refine ⟨U i, v', w', hcell, ⟨_, _, _, ev⟩, hap, (cell_of_heap ky i).trans hcell, h1'.frozen i, ⟨⟨updN U i v', ?_, fun j hj => ?_, fun j k hj hk2 hne => ?_, fun j hj k hk2 => ?_⟩, ?_, h.n, h.sx, h.sy, h.xy⟩, ?_, fun k hk2 => ?_⟩
  · rw [← rowV_set 8 U (updN U i v') i _ (updN_same _ _ _) (fun j hj => updN_other _ _ _ _ hj)]
    exact h1'.set i _
  · by_cases e : j = i
    · subst e
      rw [updN_same, updN_same]
      exact ho.sameAt fun k hk2 => k5 k (by
        rcases vnew k hk2 with z | z
        · exact (h2.nb j hj k z).2.2
        · omega)
    · rw [updN_other _ _ _ _ e, updN_other _ _ _ _ e]
      exact (h2.r j hj).sameAt fun k hk2 => (k5 k (h2.nb j hj k hk2).2.2).trans (hk k ((h2.r j hj).o.lt k hk2).2 (h2.ap j i hj hi e k hk2))
  · by_cases e : j = i
    · subst e
      rw [updN_same, updN_other _ _ _ _ (Ne.symm hne)]
      exact (Apart.push (h2.r k hk2) (h2.ap k j hk2 hj (Ne.symm hne)) hv).symm
    · by_cases e2 : k = i
      · subst e2
        rw [updN_same, updN_other _ _ _ _ e]
        exact Apart.push (h2.r j hj) (h2.ap j k hj hk2 hne) hv
      · rw [updN_other _ _ _ _ e, updN_other _ _ _ _ e2]; exact h2.ap j k hj hk2 hne
  · by_cases e : j = i
    · subst e
      rw [updN_same] at hk2
      rcases vnew k hk2 with z | z
      · exact h2.nb j hj k z
      · exact ⟨fun hs => by have := hS k hs; omega, by omega, by omega⟩
    · rw [updN_other _ _ _ _ e] at hk2; exact h2.nb j hj k hk2
  · exact (h.lx.sameBlock kx).sameBlock (k5 x h.xy)
  · exact hb.setCell (p := ⟨y, i, none⟩) yl.1 v'
  · rw [k5 k (fun e => h.sy (e ▸ hk2))]
    exact hk k (hS k hk2) (fun e => (h2.nb i hi k e).1 hk2)
end
/-- What a crash leaves of a sector. -/
theorem crL_in (L : List ByteArray) (V : Int → List ByteArray) (ch : List Int) (k : Nat) (hk : k < L.length) : ∀ n, n ≤ (pend L.length V).length → (crL L V ch (pend L.length V) n).getD k zero128 = L.getD k zero128 ∨ (crL L V ch (pend L.length V) n).getD k zero128 ∈ V k
  | 0, _ => .inl rfl
  | n + 1, hn => by
    have ih := crL_in L V ch k hk n (by omega)
    show (if chJ V ch (pend L.length V) n = 0 then _ else _ : List ByteArray).getD k zero128 = _ ∨ (if chJ V ch (pend L.length V) n = 0 then _ else _ : List ByteArray).getD k zero128 ∈ _
    by_cases h0 : chJ V ch (pend L.length V) n = 0
    · rw [if_pos h0]; exact ih
    · rw [if_neg h0]
      obtain ⟨i, hi, hx, hv⟩ := mem_pend.1 (show (pend L.length V).getD n 0 ∈ pend L.length V by rw [List.getD_eq_getElem?_getD, List.getElem?_eq_getElem (show n < (pend L.length V).length by omega)]; exact List.getElem_mem _)
      have hj : chJ V ch (pend L.length V) n < (V (i : Int)).length + 1 := by unfold chJ; rw [hv]; exact Nat.mod_lt _ (by omega)
      rw [hv, Int.toNat_natCast]
      by_cases e : i = k
      · subst e
        right
        rw [List.getD_eq_getElem?_getD, List.getElem?_set, if_pos rfl, if_pos (by rw [crL_len]; exact hk), Option.getD_some, List.getD_eq_getElem?_getD, List.getElem?_eq_getElem (by omega)]
        exact List.getElem_mem _
      · rw [List.getD_eq_getElem?_getD, List.getElem?_set, if_neg e, ← List.getD_eq_getElem?_getD]
        exact ih
theorem crash_in (L : List ByteArray) (V : Int → List ByteArray) (ch : List Int) (k : Nat) (hk : k < L.length) : (crash L V ch).getD k zero128 = L.getD k zero128 ∨ (crash L V ch).getD k zero128 ∈ V k := crL_in L V ch k hk _ (Nat.le_refl _)
theorem crash_len (L : List ByteArray) (V : Int → List ByteArray) (ch : List Int) : (crash L V ch).length = L.length := crL_len L V ch _ _
end Go.Proofs.Ytbokglifgacodaa

