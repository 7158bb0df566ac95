/- label: label: what was found, written into; plain. -/
import Derived.Test.YtaopknddpagjeaaDoorLabFit
import Derived.Test.YtaopknddpagjeaaDoorLabBox
import Derived.Test.YtaopknddpagjeaaDoorLabChoM
import Derived.Test.YtaopknddpagjeaaDoorLabFam
namespace Go.Proofs.YtaopknddpagjeaaDoor
open Go.RowKit
set_option linter.unusedVariables false
set_option linter.unusedSimpArgs false
open Lb

theorem mask_all : ∀ (n : Nat) (l : List Int), mask (List.replicate n true) l = l
  | 0, l => mask_nil l
  | _ + 1, [] => rfl
  | n + 1, a :: l => by simp only [List.replicate_succ, mask, mask_all n l, if_true]
theorem mask_rng {lo hi : Int} (h0 : lo ≤ 0) (h1 : 0 ≤ hi) : ∀ (us : List Bool) (l : List Int), (∀ n ∈ l, lo ≤ n ∧ n ≤ hi) → ∀ n ∈ mask us l, lo ≤ n ∧ n ≤ hi
  | [], l, h => by rw [mask_nil]; exact h
  | _ :: _, [], _ => by intro n hn; simp [mask] at hn
  | u :: us, a :: l, h => by
    intro n hn
    rcases List.mem_cons.1 hn with e | e
    · subst e; split
      · exact h a (List.mem_cons_self ..)
      · exact ⟨h0, h1⟩
    · exact mask_rng h0 h1 us l (fun n hn => h n (List.mem_cons_of_mem _ hn)) n e
theorem rt_num {x : Lbl} (h : Rt x) : 0 ≤ nT x := by
  unfold nT gStripes; split
  · rename_i hg
    obtain ⟨h1, h2, h3, h4, h5, h6⟩ := gR_true hg
    have := div_rng ⟨h1, h2⟩ ⟨h5, h6⟩
    omega
  · exact Int.le_refl _
/-- The next of a right label is right. -/
theorem nexted_ok {x : Lbl} (h : rightB x = true) (hg : x.g < 1099511627776) (us : List Bool) : rightB (nexted x us) = true := by
  have r := (right_iff x).1 h
  have hT := rt_num r
  refine (right_iff _).2 ⟨r.i, r.s, ?_, ?_, r.bo, ?_, ?_, ?_, ?_⟩
  · show 1 ≤ x.g + 1 ∧ x.g + 1 ≤ 1099511627776; have := r.g; omega
  · show ((mask us x.st).length : Int) = nS x; rw [mask_len]; exact r.st
  · show ((mask us x.cu).length : Int) = nS x; rw [mask_len]; exact r.cu
  · exact mask_rng (by omega) (by omega) us x.st r.sts
  · intro n hn; have := r.bos n hn; show 0 ≤ n ∧ n ≤ x.g + 1; omega
  · exact mask_rng (by omega) hT us x.cu r.cus
theorem nxB_ok {x : Lbl} (h : rightB x = true) (hg : x.g < 1099511627776) {us : List Bool} (hu : us.length = x.st.length) : nxB x us = true := by
  unfold nxB
  rw [h, decide_eq_true hu]
  have : ¬ x.g = 1099511627776 := by omega
  simp [this]
theorem nextL_ok {x : Lbl} (h : rightB x = true) (hg : x.g < 1099511627776) {us : List Bool} (hu : us.length = x.st.length) : nextL x us = nexted x us ∧ nextE x us = 0 := by
  unfold nextL nextE; rw [nxB_ok h hg hu]; exact ⟨rfl, rfl⟩
theorem nexted_all (x : Lbl) (n : Nat) : { nexted x (List.replicate n true) with g := x.g } = x := by
  show { x with g := x.g, st := mask _ x.st, cu := mask _ x.cu } = x
  rw [mask_all, mask_all]
theorem fit_small (r : Lbl) (h : 0 ≤ r.g ∧ r.g < 549755813888) : (fitL r).g = 1 + r.g := by
  show 1 + pk r.g 1099511627776 = _
  unfold pk; rw [if_neg (by omega), Int.emod_eq_of_lt h.1 (by omega)]
/-- The chain of nexts: usable places of each round. -/
structure NxOk (x : Lbl) (k : Nat) (y : Lbl) : Prop where
  r : rightB y = true
  g : y.g = x.g + k
  l : y.st.length = x.st.length
theorem NxOk.step {x y : Lbl} {k : Nat} (h : NxOk x k y) (hx : x.g + k < 1099511627776) (us : List Bool) : NxOk x (k + 1) (nexted y us) :=
  ⟨nexted_ok h.r (by rw [h.g]; exact hx) us, by show y.g + 1 = _; rw [h.g]; omega, by show (mask us y.st).length = _; rw [mask_len]; exact h.l⟩
/-- The places, all usable, laid up to k. -/
def allTo (n k : Nat) : List Value := rowV n fun i => .bool (decide (i < k))
theorem allTo_zero (n : Nat) : List.replicate n (Value.bool false) = allTo n 0 := by rw [allTo, rowV_rep]; congr 1
theorem allTo_step (n k : Nat) : (allTo n k).set k (.bool true) = allTo n (k + 1) := by
  refine rowV_set _ _ _ _ _ (by simp) fun j hj => ?_
  have : decide (j < k + 1) = decide (j < k) := by rw [decide_eq_decide]; omega
  rw [this]
theorem allTo_all (n : Nat) : allTo n n = (List.replicate n true).map .bool := by
  rw [List.map_replicate]
  unfold allTo rowV
  refine List.ext_getElem (by simp) fun i h1 h2 => ?_
  have : i < n := by simpa using h2
  simp [this]
open Go.RowKit
set_option linter.unusedVariables false
set_option linter.unusedSimpArgs false
open Lb

theorem bestTo_some {id : Int} {l : List Fd} : ∀ {k i : Nat}, i < k → cntB id l i = true → ∃ b, bestTo id l k = some b
  | 0, i, h, _ => absurd h (Nat.not_lt_zero _)
  | k + 1, i, h, hc => by
    rw [bestTo]
    split
    · exact ⟨k, rfl⟩
    · rename_i hn
      rcases Nat.lt_or_ge i k with h1 | h1
      · exact bestTo_some h1 hc
      · obtain rfl : i = k := by omega
        cases hb : bestTo id l i with
        | some b => exact ⟨b, rfl⟩
        | none => rw [hc, hb] at hn; exact absurd rfl hn
/-- The best is the greatest, the first of the greatest. -/
theorem bestTo_top {id : Int} {l : List Fd} : ∀ {k b : Nat}, bestTo id l k = some b → (∀ i, i < k → cntB id l i = true → gAt l i ≤ gAt l b) ∧ ∀ i, i < b → cntB id l i = true → gAt l i < gAt l b
  | 0, b, h => by simp [bestTo] at h
  | k + 1, b, h => by
    rw [bestTo] at h
    split at h
    · rename_i hc
      obtain rfl : k = b := by simpa using h
      rw [Bool.and_eq_true] at hc
      cases hb : bestTo id l k with
      | none =>
        have no : ∀ i, i < k → cntB id l i = true → False := fun i h1 h2 => by
          obtain ⟨b, hb'⟩ := bestTo_some h1 h2
          rw [hb] at hb'; cases hb'
        refine ⟨fun i h1 h2 => ?_, fun i h1 h2 => (no i h1 h2).elim⟩
        rcases Nat.lt_or_ge i k with h3 | h3
        · exact (no i h3 h2).elim
        · obtain rfl : i = k := by omega
          exact Int.le_refl _
      | some c =>
        have hg : gAt l k > gAt l c := by have := hc.2; rw [hb] at this; exact of_decide_eq_true this
        have ih := bestTo_top hb
        refine ⟨fun i h1 h2 => ?_, fun i h1 h2 => ?_⟩
        · rcases Nat.lt_or_ge i k with h3 | h3
          · have := ih.1 i h3 h2; omega
          · obtain rfl : i = k := by omega
            exact Int.le_refl _
        · have := ih.1 i h1 h2; omega
    · rename_i hn
      have ih := bestTo_top h
      refine ⟨fun i h1 h2 => ?_, ih.2⟩
      rcases Nat.lt_or_ge i k with h3 | h3
      · exact ih.1 i h3 h2
      · obtain rfl : i = k := by omega
        rw [h2, h] at hn
        have : ¬ gAt l i > gAt l b := fun hg => hn (by rw [beats, decide_eq_true hg]; rfl)
        omega
/-- What a family is. -/
structure IsFam (x : Lbl) (gens : List Int) (n : Nat) (l : List Fd) : Prop where
  r : rightB x = true
  sz : x.st.length = n
  m : l.map Fd.x = famXs x gens n
  h : ∀ f ∈ l, f.has = true
namespace IsFam
variable {x : Lbl} {gens : List Int} {n : Nat} {l : List Fd}
theorem len (h : IsFam x gens n l) : l.length = n := by have := congrArg List.length h.m; simpa [famXs] using this
theorem at_ (h : IsFam x gens n l) {i : Nat} (hi : i < l.length) : l[i].x = famX x gens i := by
  have h1 : (l.map Fd.x)[i]? = (famXs x gens n)[i]? := by rw [h.m]
  have hn := h.len
  simp [famXs, hi, show i < n by omega] at h1
  exact h1
theorem nat (h : IsFam x gens n l) : (n : Int) = nS x ∧ 2 ≤ n ∧ n ≤ 7 ∧ x.bo.length = n ∧ x.cu.length = n := by
  obtain ⟨m, h1, h2, h3, h4, h5, h6⟩ := ((right_iff x).1 h.r).nat
  have := h.sz
  exact ⟨by omega, by omega, by omega, by omega, by omega⟩
theorem right (h : IsFam x gens n l) {i : Nat} (hi : i < l.length) : rightB l[i].x = true := by
  rw [h.at_ hi]; exact (famX_ok h.r gens (by rw [h.sz, ← h.len]; exact hi)).1
theorem counts (h : IsFam x gens n l) {i : Nat} (hi : i < l.length) : cntB x.i l i = true := by
  rw [cntB_at hi, h.right hi, h.h _ (List.getElem_mem hi), h.at_ hi, h.len]
  have e1 : (famX x gens i).i = x.i := rfl
  have e2 : (famX x gens i).s = (i : Int) := rfl
  have e3 : nS (famX x gens i) = nS x := rfl
  rw [e1, e2, e3, h.nat.1]
  simp
theorem best (h : IsFam x gens n l) : ∃ b, ∃ hb : b < l.length, bestTo x.i l l.length = some b ∧ choL x.i l = l[b].x ∧ choU x.i l = uses x.i l b ∧ choE x.i l = 0 := by
  have hn := h.nat
  have hl := h.len
  obtain ⟨b, hb⟩ := bestTo_some (i := 0) (show 0 < l.length by omega) (h.counts (by omega))
  have hlt := (bestTo_lt hb).1
  refine ⟨b, hlt, hb, ?_, ?_, ?_⟩
  · unfold choL; rw [hb]; simp only; rw [List.getElem?_eq_getElem hlt]
  · unfold choU; rw [hb]
  · unfold choE; rw [hb]
theorem lens (h : IsFam x gens n l) : ∀ f ∈ l, f.x.st.length ≤ 140737488355328 ∧ f.x.bo.length ≤ 140737488355328 ∧ f.x.cu.length ≤ 140737488355328 := fun f hf => by
  obtain ⟨i, hi, rfl⟩ := List.getElem_of_mem hf
  rw [h.at_ hi]
  have hn := h.nat
  have := h.sz
  show x.st.length ≤ _ ∧ x.bo.length ≤ _ ∧ x.cu.length ≤ _
  omega
end IsFam
theorem GivesFam.fam {w : World} {x : Lbl} {gens : List Int} {e : Ending} {w' : World} (h : GivesFam w x gens e w') (hr : rightB x = true) : ∃ v l, e = .returned (.tuple #[.int .i64 x.i, v]) ∧ IsFam x gens x.st.length l ∧ Fam w' w.heap.size v l ∧ Below w.heap.size w w' := by
  obtain ⟨v, l, h1, h2, h3, h4, h5⟩ := h
  exact ⟨v, l, h1, ⟨hr, rfl, h2, h3⟩, h4, h5⟩
open Go.RowKit
set_option linter.unusedVariables false
set_option linter.unusedSimpArgs false
open Lb

/-- What was found, in one row, cell by cell. -/
structure FBox (W : World) (g : Nat) (l : List Fd) : Prop where
  at_ : ∀ i (hi : i < l.length), FAt W g (i * 10) l[i]
  f : ∀ o, W.frozen? ⟨g, o, none⟩ = false
  lt : g < W.heap.size
theorem Fam.box {w : World} {B g n cap : Nat} {l : List Fd} (h : Fam w B (.slice (some ⟨g, 0, none⟩) n cap) l) (hL : ∀ f ∈ l, LR w f.x f.va f.vb f.vc) : FBox w g l := by
  have hlt := (h.o.lt g rfl).2
  refine ⟨fun i hi => ?_, fun o => h.o.frozen o, hlt⟩
  have q : ∀ j, j < 10 → w.cell? ⟨g, i * 10 + j, none⟩ = (fdE.f l[i])[j]? := fun j hj => h.o.cell hi hj
  have hl := hL l[i] (List.getElem_mem hi)
  exact ⟨q 0 (by decide), q 1 (by decide), q 2 (by decide), q 3 (by decide), q 4 (by decide), q 5 (by decide), q 6 (by decide),
    by rw [q 7 (by decide)]; exact congrArg some (cell1_of hl.s), by rw [q 8 (by decide)]; exact congrArg some (cell1_of hl.b), by rw [q 9 (by decide)]; exact congrArg some (cell1_of hl.c), hlt⟩
theorem FBox.heap {w w' : World} {g : Nat} {l : List Fd} (h : FBox w g l) (e : w'.heap[g]? = w.heap[g]?) (hs : w.heap.size ≤ w'.heap.size) : FBox w' g l :=
  ⟨fun i hi => by
    have c := h.at_ i hi
    exact ⟨(cell_of_heap e _).trans c.h, (cell_of_heap e _).trans c.c0, (cell_of_heap e _).trans c.c1, (cell_of_heap e _).trans c.c2, (cell_of_heap e _).trans c.c3, (cell_of_heap e _).trans c.c4, (cell_of_heap e _).trans c.c5, (cell_of_heap e _).trans c.c6, (cell_of_heap e _).trans c.c7, (cell_of_heap e _).trans c.c8, Nat.lt_of_lt_of_le c.lt hs⟩,
   fun o => by have := h.f o; unfold World.frozen? at this ⊢; rw [e]; exact this, Nat.lt_of_lt_of_le h.lt hs⟩
theorem FBox.below {w w' : World} {g : Nat} {l : List Fd} (h : FBox w g l) (hb : Below w.heap.size w w') : FBox w' g l := h.heap (hb.block g h.lt) hb.size
theorem FBox.far {w : World} {g b o : Nat} {l : List Fd} (h : FBox w g l) (hne : b ≠ g) (u : Value) : FBox (w.setCell ⟨b, o, none⟩ u) g l := h.heap (Below.heap_setCell _ _ _ _ (Ne.symm hne)) (by simp)
theorem FBox.reads {w : World} {g cap : Nat} {l : List Fd} (h : FBox w g l) (hL : ∀ f ∈ l, LR w f.x f.va f.vb f.vc) : FReads w (.slice (some ⟨g, 0, none⟩) l.length cap) l :=
  ⟨_, cap, rfl, fun i hi => ⟨g, 0, rfl, by rw [Nat.zero_add]; exact h.at_ i hi, hL _ (List.getElem_mem hi)⟩⟩
/-- A cell that stands elsewhere. -/
theorem FAt.away {w : World} {g o p : Nat} {f : Fd} {u : Value} (h : FAt w g o f) (hp : p < o ∨ o + 10 ≤ p) : FAt (w.setCell ⟨g, p, none⟩ u) g o f :=
  ⟨by rw [World.cell?_setCell_other _ _ _ _ (by simp <;> omega)]; exact h.h, by rw [World.cell?_setCell_other _ _ _ _ (by simp <;> omega)]; exact h.c0, by rw [World.cell?_setCell_other _ _ _ _ (by simp <;> omega)]; exact h.c1, by rw [World.cell?_setCell_other _ _ _ _ (by simp <;> omega)]; exact h.c2, by rw [World.cell?_setCell_other _ _ _ _ (by simp <;> omega)]; exact h.c3, by rw [World.cell?_setCell_other _ _ _ _ (by simp <;> omega)]; exact h.c4, by rw [World.cell?_setCell_other _ _ _ _ (by simp <;> omega)]; exact h.c5, by rw [World.cell?_setCell_other _ _ _ _ (by simp <;> omega)]; exact h.c6, by rw [World.cell?_setCell_other _ _ _ _ (by simp <;> omega)]; exact h.c7, by rw [World.cell?_setCell_other _ _ _ _ (by simp <;> omega)]; exact h.c8, by simpa using h.lt⟩
/-- One cell written. -/
theorem FAt.setHas {w : World} {g o : Nat} {f : Fd} (h : FAt w g o f) (u : Bool) : FAt (w.setCell ⟨g, o, none⟩ (.bool u)) g o { f with has := u } :=
  ⟨World.cell?_setCell_same' _ _ _ (by rw [h.h]; rfl), by rw [World.cell?_setCell_other _ _ _ _ (by simp)]; exact h.c0, by rw [World.cell?_setCell_other _ _ _ _ (by simp)]; exact h.c1, by rw [World.cell?_setCell_other _ _ _ _ (by simp)]; exact h.c2, by rw [World.cell?_setCell_other _ _ _ _ (by simp)]; exact h.c3, by rw [World.cell?_setCell_other _ _ _ _ (by simp)]; exact h.c4, by rw [World.cell?_setCell_other _ _ _ _ (by simp)]; exact h.c5, by rw [World.cell?_setCell_other _ _ _ _ (by simp)]; exact h.c6, by rw [World.cell?_setCell_other _ _ _ _ (by simp)]; exact h.c7, by rw [World.cell?_setCell_other _ _ _ _ (by simp)]; exact h.c8, by simpa using h.lt⟩
theorem FAt.setN0 {w : World} {g o : Nat} {f : Fd} (h : FAt w g o f) (u : Int) : FAt (w.setCell ⟨g, o + 1, none⟩ (.int .i64 u)) g o { f with x := { f.x with i := u } } :=
  ⟨by rw [World.cell?_setCell_other _ _ _ _ (by simp)]; exact h.h, World.cell?_setCell_same' _ _ _ (by rw [h.c0]; rfl), by rw [World.cell?_setCell_other _ _ _ _ (by simp)]; exact h.c1, by rw [World.cell?_setCell_other _ _ _ _ (by simp)]; exact h.c2, by rw [World.cell?_setCell_other _ _ _ _ (by simp)]; exact h.c3, by rw [World.cell?_setCell_other _ _ _ _ (by simp)]; exact h.c4, by rw [World.cell?_setCell_other _ _ _ _ (by simp)]; exact h.c5, by rw [World.cell?_setCell_other _ _ _ _ (by simp)]; exact h.c6, by rw [World.cell?_setCell_other _ _ _ _ (by simp)]; exact h.c7, by rw [World.cell?_setCell_other _ _ _ _ (by simp)]; exact h.c8, by simpa using h.lt⟩
theorem FAt.setN1 {w : World} {g o : Nat} {f : Fd} (h : FAt w g o f) (u : Int) : FAt (w.setCell ⟨g, o + 2, none⟩ (.int .i64 u)) g o { f with x := { f.x with s := u } } :=
  ⟨by rw [World.cell?_setCell_other _ _ _ _ (by simp)]; exact h.h, by rw [World.cell?_setCell_other _ _ _ _ (by simp)]; exact h.c0, World.cell?_setCell_same' _ _ _ (by rw [h.c1]; rfl), by rw [World.cell?_setCell_other _ _ _ _ (by simp)]; exact h.c2, by rw [World.cell?_setCell_other _ _ _ _ (by simp)]; exact h.c3, by rw [World.cell?_setCell_other _ _ _ _ (by simp)]; exact h.c4, by rw [World.cell?_setCell_other _ _ _ _ (by simp)]; exact h.c5, by rw [World.cell?_setCell_other _ _ _ _ (by simp)]; exact h.c6, by rw [World.cell?_setCell_other _ _ _ _ (by simp)]; exact h.c7, by rw [World.cell?_setCell_other _ _ _ _ (by simp)]; exact h.c8, by simpa using h.lt⟩
theorem FAt.setN2 {w : World} {g o : Nat} {f : Fd} (h : FAt w g o f) (u : Int) : FAt (w.setCell ⟨g, o + 3, none⟩ (.int .i64 u)) g o { f with x := { f.x with g := u } } :=
  ⟨by rw [World.cell?_setCell_other _ _ _ _ (by simp)]; exact h.h, by rw [World.cell?_setCell_other _ _ _ _ (by simp)]; exact h.c0, by rw [World.cell?_setCell_other _ _ _ _ (by simp)]; exact h.c1, World.cell?_setCell_same' _ _ _ (by rw [h.c2]; rfl), by rw [World.cell?_setCell_other _ _ _ _ (by simp)]; exact h.c3, by rw [World.cell?_setCell_other _ _ _ _ (by simp)]; exact h.c4, by rw [World.cell?_setCell_other _ _ _ _ (by simp)]; exact h.c5, by rw [World.cell?_setCell_other _ _ _ _ (by simp)]; exact h.c6, by rw [World.cell?_setCell_other _ _ _ _ (by simp)]; exact h.c7, by rw [World.cell?_setCell_other _ _ _ _ (by simp)]; exact h.c8, by simpa using h.lt⟩
theorem FAt.setN3 {w : World} {g o : Nat} {f : Fd} (h : FAt w g o f) (u : Int) : FAt (w.setCell ⟨g, o + 4, none⟩ (.int .i64 u)) g o { f with x := { f.x with k := u } } :=
  ⟨by rw [World.cell?_setCell_other _ _ _ _ (by simp)]; exact h.h, by rw [World.cell?_setCell_other _ _ _ _ (by simp)]; exact h.c0, by rw [World.cell?_setCell_other _ _ _ _ (by simp)]; exact h.c1, by rw [World.cell?_setCell_other _ _ _ _ (by simp)]; exact h.c2, World.cell?_setCell_same' _ _ _ (by rw [h.c3]; rfl), by rw [World.cell?_setCell_other _ _ _ _ (by simp)]; exact h.c4, by rw [World.cell?_setCell_other _ _ _ _ (by simp)]; exact h.c5, by rw [World.cell?_setCell_other _ _ _ _ (by simp)]; exact h.c6, by rw [World.cell?_setCell_other _ _ _ _ (by simp)]; exact h.c7, by rw [World.cell?_setCell_other _ _ _ _ (by simp)]; exact h.c8, by simpa using h.lt⟩
theorem FAt.setN4 {w : World} {g o : Nat} {f : Fd} (h : FAt w g o f) (u : Int) : FAt (w.setCell ⟨g, o + 5, none⟩ (.int .i64 u)) g o { f with x := { f.x with m := u } } :=
  ⟨by rw [World.cell?_setCell_other _ _ _ _ (by simp)]; exact h.h, by rw [World.cell?_setCell_other _ _ _ _ (by simp)]; exact h.c0, by rw [World.cell?_setCell_other _ _ _ _ (by simp)]; exact h.c1, by rw [World.cell?_setCell_other _ _ _ _ (by simp)]; exact h.c2, by rw [World.cell?_setCell_other _ _ _ _ (by simp)]; exact h.c3, World.cell?_setCell_same' _ _ _ (by rw [h.c4]; rfl), by rw [World.cell?_setCell_other _ _ _ _ (by simp)]; exact h.c5, by rw [World.cell?_setCell_other _ _ _ _ (by simp)]; exact h.c6, by rw [World.cell?_setCell_other _ _ _ _ (by simp)]; exact h.c7, by rw [World.cell?_setCell_other _ _ _ _ (by simp)]; exact h.c8, by simpa using h.lt⟩
theorem FAt.setN5 {w : World} {g o : Nat} {f : Fd} (h : FAt w g o f) (u : Int) : FAt (w.setCell ⟨g, o + 6, none⟩ (.int .i64 u)) g o { f with x := { f.x with b := u } } :=
  ⟨by rw [World.cell?_setCell_other _ _ _ _ (by simp)]; exact h.h, by rw [World.cell?_setCell_other _ _ _ _ (by simp)]; exact h.c0, by rw [World.cell?_setCell_other _ _ _ _ (by simp)]; exact h.c1, by rw [World.cell?_setCell_other _ _ _ _ (by simp)]; exact h.c2, by rw [World.cell?_setCell_other _ _ _ _ (by simp)]; exact h.c3, by rw [World.cell?_setCell_other _ _ _ _ (by simp)]; exact h.c4, World.cell?_setCell_same' _ _ _ (by rw [h.c5]; rfl), by rw [World.cell?_setCell_other _ _ _ _ (by simp)]; exact h.c6, by rw [World.cell?_setCell_other _ _ _ _ (by simp)]; exact h.c7, by rw [World.cell?_setCell_other _ _ _ _ (by simp)]; exact h.c8, by simpa using h.lt⟩
theorem FBox.put {w w' : World} {g k : Nat} {l : List Fd} {f : Fd} (h : FBox w g l) (hk : k < l.length) (h1 : FAt w' g (k * 10) f) (h2 : ∀ i (hi : i < l.length), i ≠ k → FAt w' g (i * 10) l[i]) (h3 : ∀ o, w'.frozen? ⟨g, o, none⟩ = false) : FBox w' g (l.set k f) :=
  ⟨fun i hi => by
    rw [List.getElem_set]
    split
    · rename_i e; subst e; exact h1
    · rename_i e; exact h2 i (by simpa using hi) (fun c => e c.symm), h3, h1.lt⟩
theorem FBox.setHas {w : World} {g k : Nat} {l : List Fd} (h : FBox w g l) (hk : k < l.length) (u : Bool) : FBox (w.setCell ⟨g, k * 10, none⟩ (.bool u)) g (l.set k { l[k] with has := u }) :=
  h.put hk ((h.at_ k hk).setHas u) (fun i hi hne => (h.at_ i hi).away (by omega)) (fun o => by rw [World.frozen?_setCell]; exact h.f o)
theorem FBox.setGen {w : World} {g k : Nat} {l : List Fd} (h : FBox w g l) (hk : k < l.length) (u : Int) : FBox (w.setCell ⟨g, k * 10 + 3, none⟩ (.int .i64 u)) g (l.set k { l[k] with x := { l[k].x with g := u } }) :=
  h.put hk ((h.at_ k hk).setN2 u) (fun i hi hne => (h.at_ i hi).away (by omega)) (fun o => by rw [World.frozen?_setCell]; exact h.f o)
/-- A whole label written. -/
def setF (w : World) (g o : Nat) (y : Lbl) (va vb vc : Value) : World :=
  ((((((((w.setCell ⟨g, o, none⟩ (.int .i64 y.i)).setCell ⟨g, o + 1, none⟩ (.int .i64 y.s)).setCell ⟨g, o + 2, none⟩ (.int .i64 y.g)).setCell ⟨g, o + 3, none⟩ (.int .i64 y.k)).setCell ⟨g, o + 4, none⟩ (.int .i64 y.m)).setCell ⟨g, o + 5, none⟩ (.int .i64 y.b)).setCell ⟨g, o + 6, none⟩ va).setCell ⟨g, o + 7, none⟩ vb).setCell ⟨g, o + 8, none⟩ vc
theorem setF_heap (w : World) (g o : Nat) (y : Lbl) (va vb vc : Value) (k : Nat) (hk : k ≠ g) : (setF w g o y va vb vc).heap[k]? = w.heap[k]? := by
  unfold setF
  rw [Below.heap_setCell _ _ _ _ hk, Below.heap_setCell _ _ _ _ hk, Below.heap_setCell _ _ _ _ hk, Below.heap_setCell _ _ _ _ hk, Below.heap_setCell _ _ _ _ hk, Below.heap_setCell _ _ _ _ hk, Below.heap_setCell _ _ _ _ hk, Below.heap_setCell _ _ _ _ hk, Below.heap_setCell _ _ _ _ hk]
theorem setF_size (w : World) (g o : Nat) (y : Lbl) (va vb vc : Value) : (setF w g o y va vb vc).heap.size = w.heap.size := by unfold setF; simp
theorem setF_frozen (w : World) (g o : Nat) (y : Lbl) (va vb vc : Value) (p : Addr) : (setF w g o y va vb vc).frozen? p = w.frozen? p := by
  unfold setF
  rw [World.frozen?_setCell, World.frozen?_setCell, World.frozen?_setCell, World.frozen?_setCell, World.frozen?_setCell, World.frozen?_setCell, World.frozen?_setCell, World.frozen?_setCell, World.frozen?_setCell]
theorem setF_below {B : Nat} {w0 w : World} {g : Nat} (h : Below B w0 w) (hg : B ≤ g) (o : Nat) (y : Lbl) (va vb vc : Value) : Below B w0 (setF w g o y va vb vc) := by
  unfold setF
  exact ((((((((h.setCell (p := ⟨g, o, none⟩) hg _).setCell (p := ⟨g, o + 1, none⟩) hg _).setCell (p := ⟨g, o + 2, none⟩) hg _).setCell (p := ⟨g, o + 3, none⟩) hg _).setCell (p := ⟨g, o + 4, none⟩) hg _).setCell (p := ⟨g, o + 5, none⟩) hg _).setCell (p := ⟨g, o + 6, none⟩) hg _).setCell (p := ⟨g, o + 7, none⟩) hg _).setCell (p := ⟨g, o + 8, none⟩) hg _
theorem FAt.setF {w : World} {g o : Nat} {f : Fd} (h : FAt w g o f) (y : Lbl) (va vb vc : Value) : FAt (setF w g (o + 1) y va vb vc) g o ⟨f.has, y, va, vb, vc⟩ := by
  have s0 := fun j : Nat => show o + 1 + j = o + (1 + j) from Nat.add_assoc _ _ _
  unfold Go.Proofs.YtaopknddpagjeaaDoor.setF
  refine ⟨?_, ?_, ?_, ?_, ?_, ?_, ?_, ?_, ?_, ?_, by simpa using h.lt⟩
  · rw [World.cell?_setCell_other _ _ _ _ (by simp), World.cell?_setCell_other _ _ _ _ (by simp), World.cell?_setCell_other _ _ _ _ (by simp), World.cell?_setCell_other _ _ _ _ (by simp), World.cell?_setCell_other _ _ _ _ (by simp), World.cell?_setCell_other _ _ _ _ (by simp), World.cell?_setCell_other _ _ _ _ (by simp), World.cell?_setCell_other _ _ _ _ (by simp), World.cell?_setCell_other _ _ _ _ (by simp)]
    exact h.h
  · rw [World.cell?_setCell_other _ _ _ _ (by simp), World.cell?_setCell_other _ _ _ _ (by simp), World.cell?_setCell_other _ _ _ _ (by simp), World.cell?_setCell_other _ _ _ _ (by simp), World.cell?_setCell_other _ _ _ _ (by simp), World.cell?_setCell_other _ _ _ _ (by simp), World.cell?_setCell_other _ _ _ _ (by simp), World.cell?_setCell_other _ _ _ _ (by simp)]
    exact World.cell?_setCell_same' _ _ _ (by rw [h.c0]; rfl)
  · rw [World.cell?_setCell_other _ _ _ _ (by simp), World.cell?_setCell_other _ _ _ _ (by simp), World.cell?_setCell_other _ _ _ _ (by simp), World.cell?_setCell_other _ _ _ _ (by simp), World.cell?_setCell_other _ _ _ _ (by simp), World.cell?_setCell_other _ _ _ _ (by simp), World.cell?_setCell_other _ _ _ _ (by simp)]
    exact World.cell?_setCell_same' _ _ _ (by rw [World.cell?_setCell_other _ _ _ _ (by simp), h.c1]; rfl)
  · rw [World.cell?_setCell_other _ _ _ _ (by simp), World.cell?_setCell_other _ _ _ _ (by simp), World.cell?_setCell_other _ _ _ _ (by simp), World.cell?_setCell_other _ _ _ _ (by simp), World.cell?_setCell_other _ _ _ _ (by simp), World.cell?_setCell_other _ _ _ _ (by simp)]
    exact World.cell?_setCell_same' _ _ _ (by rw [World.cell?_setCell_other _ _ _ _ (by simp), World.cell?_setCell_other _ _ _ _ (by simp), h.c2]; rfl)
  · rw [World.cell?_setCell_other _ _ _ _ (by simp), World.cell?_setCell_other _ _ _ _ (by simp), World.cell?_setCell_other _ _ _ _ (by simp), World.cell?_setCell_other _ _ _ _ (by simp), World.cell?_setCell_other _ _ _ _ (by simp)]
    exact World.cell?_setCell_same' _ _ _ (by rw [World.cell?_setCell_other _ _ _ _ (by simp), World.cell?_setCell_other _ _ _ _ (by simp), World.cell?_setCell_other _ _ _ _ (by simp), h.c3]; rfl)
  · rw [World.cell?_setCell_other _ _ _ _ (by simp), World.cell?_setCell_other _ _ _ _ (by simp), World.cell?_setCell_other _ _ _ _ (by simp), World.cell?_setCell_other _ _ _ _ (by simp)]
    exact World.cell?_setCell_same' _ _ _ (by rw [World.cell?_setCell_other _ _ _ _ (by simp), World.cell?_setCell_other _ _ _ _ (by simp), World.cell?_setCell_other _ _ _ _ (by simp), World.cell?_setCell_other _ _ _ _ (by simp), h.c4]; rfl)
  · rw [World.cell?_setCell_other _ _ _ _ (by simp), World.cell?_setCell_other _ _ _ _ (by simp), World.cell?_setCell_other _ _ _ _ (by simp)]
    exact World.cell?_setCell_same' _ _ _ (by rw [World.cell?_setCell_other _ _ _ _ (by simp), World.cell?_setCell_other _ _ _ _ (by simp), World.cell?_setCell_other _ _ _ _ (by simp), World.cell?_setCell_other _ _ _ _ (by simp), World.cell?_setCell_other _ _ _ _ (by simp), h.c5]; rfl)
  · rw [World.cell?_setCell_other _ _ _ _ (by simp), World.cell?_setCell_other _ _ _ _ (by simp)]
    exact World.cell?_setCell_same' _ _ _ (by rw [World.cell?_setCell_other _ _ _ _ (by simp), World.cell?_setCell_other _ _ _ _ (by simp), World.cell?_setCell_other _ _ _ _ (by simp), World.cell?_setCell_other _ _ _ _ (by simp), World.cell?_setCell_other _ _ _ _ (by simp), World.cell?_setCell_other _ _ _ _ (by simp), h.c6]; rfl)
  · rw [World.cell?_setCell_other _ _ _ _ (by simp)]
    exact World.cell?_setCell_same' _ _ _ (by rw [World.cell?_setCell_other _ _ _ _ (by simp), World.cell?_setCell_other _ _ _ _ (by simp), World.cell?_setCell_other _ _ _ _ (by simp), World.cell?_setCell_other _ _ _ _ (by simp), World.cell?_setCell_other _ _ _ _ (by simp), World.cell?_setCell_other _ _ _ _ (by simp), World.cell?_setCell_other _ _ _ _ (by simp), h.c7]; rfl)
  · exact World.cell?_setCell_same' _ _ _ (by rw [World.cell?_setCell_other _ _ _ _ (by simp), World.cell?_setCell_other _ _ _ _ (by simp), World.cell?_setCell_other _ _ _ _ (by simp), World.cell?_setCell_other _ _ _ _ (by simp), World.cell?_setCell_other _ _ _ _ (by simp), World.cell?_setCell_other _ _ _ _ (by simp), World.cell?_setCell_other _ _ _ _ (by simp), World.cell?_setCell_other _ _ _ _ (by simp), h.c8]; rfl)
theorem FAt.setFar {w : World} {g o p : Nat} {f : Fd} (h : FAt w g o f) (hp : p + 9 ≤ o ∨ o + 10 ≤ p) (y : Lbl) (va vb vc : Value) : FAt (Go.Proofs.YtaopknddpagjeaaDoor.setF w g p y va vb vc) g o f := by
  unfold Go.Proofs.YtaopknddpagjeaaDoor.setF
  exact ((((((((h.away (u := _) (p := p) (by omega)).away (u := _) (p := p + 1) (by omega)).away (u := _) (p := p + 2) (by omega)).away (u := _) (p := p + 3) (by omega)).away (u := _) (p := p + 4) (by omega)).away (u := _) (p := p + 5) (by omega)).away (u := _) (p := p + 6) (by omega)).away (u := _) (p := p + 7) (by omega)).away (u := _) (p := p + 8) (by omega)
theorem FBox.setLbl {w : World} {g k : Nat} {l : List Fd} (h : FBox w g l) (hk : k < l.length) (y : Lbl) (va vb vc : Value) : FBox (setF w g (k * 10 + 1) y va vb vc) g (l.set k ⟨l[k].has, y, va, vb, vc⟩) :=
  h.put hk ((h.at_ k hk).setF y va vb vc) (fun i hi hne => (h.at_ i hi).setFar (by omega) y va vb vc) (fun o => by rw [setF_frozen]; exact h.f o)
/-- All blocks but one are as they were: what reads elsewhere still reads. -/
theorem Own.stay {w w' : World} {B p : Nat} {E : TypeId} {v : Value} {xs : List Value} (h : Own w B E v xs) (hk : KP p w w') (hv : v.ownBlock ≠ some p) : Own w' B E v xs := by
  refine ⟨h.o.1, ?_⟩
  rcases h.o.2 with h1 | ⟨g, cap, cur, h1, h2, h3, h4⟩
  · exact .inl h1
  · refine .inr ⟨g, cap, cur, h1, h2, ?_, h4⟩
    rw [hk.2 g (Array.getElem?_eq_some_iff.1 h3).1 (fun e => hv (by rw [h1, ← e]; rfl))]; exact h3
theorem Reads.old {w w1 w' : World} {v : Value} {xs : List Value} {p : Nat} (h : Reads w v xs) (hb : Below w.heap.size w w1) (hp : w.heap.size ≤ p) (hk : KP p w1 w') : Reads w' v xs := by
  rcases h with h | ⟨b, off, cap, h1, h2, h3⟩
  · exact .inl h
  · have := hb.size
    exact .inr ⟨b, off, cap, h1, by have := hk.1; omega, fun i hi => by rw [cell_of_heap (hk.2 b (by omega) (by omega)), cell_of_heap (hb.block b h2)]; exact h3 i hi⟩
theorem LR.old {w w1 w' : World} {x : Lbl} {va vb vc : Value} {p : Nat} (h : LR w x va vb vc) (hb : Below w.heap.size w w1) (hp : w.heap.size ≤ p) (hk : KP p w1 w') : LR w' x va vb vc :=
  ⟨h.s.old hb hp hk, h.b.old hb hp hk, h.c.old hb hp hk, h.ls, h.lb, h.lc⟩
/-- What a family's labels read as, whatever is written into its row. -/
theorem Fam.stay {w w' : World} {B g n cap : Nat} {l : List Fd} (h : Fam w B (.slice (some ⟨g, 0, none⟩) n cap) l) (hl : ∀ f ∈ l, f.x.st.length ≤ 140737488355328 ∧ f.x.bo.length ≤ 140737488355328 ∧ f.x.cu.length ≤ 140737488355328) (hk : KP g w w') : ∀ f ∈ l, LR w' f.x f.va f.vb f.vc := fun f hf => by
  have hq : ∀ u, u ∈ vals3 f → u.ownBlock ≠ some g := fun u hu e => h.q u (List.mem_flatMap.2 ⟨f, hf, hu⟩) g e rfl
  obtain ⟨h1, h2, h3⟩ := hl f hf
  exact ⟨((h.s f hf).stay hk (hq _ (by simp [vals3]))).reads, ((h.b f hf).stay hk (hq _ (by simp [vals3]))).reads, ((h.c f hf).stay hk (hq _ (by simp [vals3]))).reads, h1, h2, h3⟩
/-- Whether what lies in a slot counts. -/
def okF (id : Int) (n i : Nat) (f : Fd) : Bool := f.has && (rightB f.x && (f.x.i == id && (f.x.s == (i : Int) && ((n : Int) == nS f.x))))
theorem cntB_ok {id : Int} {l : List Fd} {i : Nat} (hi : i < l.length) : cntB id l i = okF id l.length i l[i] := cntB_at hi
/-- A family, some of which is spoilt. -/
structure Spoilt (x : Lbl) (gens : List Int) (n : Nat) (l l' : List Fd) (gone : List Bool) : Prop where
  fam : IsFam x gens n l
  len : l'.length = n
  gl : gone.length = n
  keep : ∀ i (hi : i < l'.length) (hj : i < l.length), gone.getD i true = false → l'[i] = l[i]
  bad : ∀ i (hi : i < l'.length), gone.getD i true = true → okF x.i n i l'[i] = false
namespace Spoilt
variable {x : Lbl} {gens : List Int} {n : Nat} {l l' : List Fd} {gone : List Bool}
theorem none (h : IsFam x gens n l) : Spoilt x gens n l l (List.replicate n false) :=
  ⟨h, h.len, by simp, fun _ _ _ _ => rfl, fun i hi e => by
    rw [h.len] at hi
    simp [List.getD_eq_getElem?_getD, List.getElem?_replicate, hi] at e⟩
theorem step (h : Spoilt x gens n l l' gone) {k : Nat} (hk : k < n) {f : Fd} (hf : okF x.i n k f = false) : Spoilt x gens n l (l'.set k f) (gone.set k true) := by
  have hg := h.gl
  refine ⟨h.fam, by rw [List.length_set]; exact h.len, by rw [List.length_set]; exact h.gl, fun i hi hj e => ?_, fun i hi e => ?_⟩
  · rw [List.length_set] at hi
    rw [List.getD_eq_getElem?_getD, List.getElem?_set] at e
    rw [List.getElem_set]
    split at e
    · rename_i hki
      subst hki
      have hkl : k < gone.length := by omega
      first | (rw [if_pos hkl] at e; cases e) | (split at e <;> simp_all)
    · rename_i hki
      rw [if_neg hki]
      exact h.keep i hi hj (by rw [List.getD_eq_getElem?_getD]; exact e)
  · rw [List.length_set] at hi
    rw [List.getElem_set]
    split
    · rename_i hki; subst hki; exact hf
    · rename_i hki
      rw [List.getD_eq_getElem?_getD, List.getElem?_set, if_neg hki] at e
      exact h.bad i hi (by rw [List.getD_eq_getElem?_getD]; exact e)
theorem cnt (h : Spoilt x gens n l l' gone) {i : Nat} (hi : i < n) : cntB x.i l' i = !(gone.getD i true) := by
  have h1 : i < l'.length := by rw [h.len]; exact hi
  have h2 : i < l.length := by rw [h.fam.len]; exact hi
  rw [cntB_ok h1, h.len]
  cases e : gone.getD i true with
  | true => rw [h.bad i h1 e]; rfl
  | false =>
    rw [h.keep i h1 h2 e]
    have := h.fam.counts h2
    rw [cntB_ok h2, h.fam.len] at this
    rw [this]; rfl
theorem use (h : Spoilt x gens n l l' gone) {b i : Nat} (hb : b < n) (hgb : gone.getD b true = false) (hi : i < n) : useB x.i l' b i = !(gone.getD i true) := by
  have hl := h.len
  have hf := h.fam.len
  rw [useB_at (by omega) (by omega), h.cnt hi]
  cases e : gone.getD i true with
  | true => rfl
  | false =>
    rw [h.keep i (by omega) (by omega) e, h.keep b (by omega) (by omega) hgb, h.fam.at_ (by omega), h.fam.at_ (by omega)]
    simp [geoB, famX]
theorem len_of (h : Spoilt x gens n l l' gone) : l.length = n := h.fam.len
end Spoilt
theorem bestTo_gone {id : Int} {l : List Fd} : ∀ {k : Nat}, bestTo id l k = none → ∀ i, i < k → cntB id l i = false
  | 0, _, i, h => absurd h (Nat.not_lt_zero _)
  | k + 1, h, i, hi => by
    cases hc : cntB id l i with
    | false => rfl
    | true =>
      obtain ⟨b, hb⟩ := bestTo_some hi hc
      rw [h] at hb; cases hb
end Go.Proofs.YtaopknddpagjeaaDoor
