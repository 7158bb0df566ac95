/- label: LabelStale, walked. -/
import Derived.Test.YtaopknddpagjeaaDoorLabFamM
import Derived.Test.YtaopknddpagjeaaDoorLabAwake
import Derived.BigQuiet
import Derived.Deep.QuietTactic
namespace Go.Proofs.YtaopknddpagjeaaDoor
open Go.RowKit
set_option linter.unusedVariables false
set_option linter.unusedSimpArgs false
open Lb

/-- One label of many written anew. -/
def upd (Y : Nat → Lbl) (k : Nat) (y : Lbl) : Nat → Lbl := fun i => if i = k then y else Y i
theorem upd_same (Y : Nat → Lbl) (k : Nat) (y : Lbl) : upd Y k y k = y := if_pos rfl
theorem upd_other (Y : Nat → Lbl) {k i : Nat} (y : Lbl) (h : i ≠ k) : upd Y k y i = Y i := if_neg h
/-- What was found, whose labels are Y. -/
structure SB (W : World) (B g : Nat) (l : List Fd) (Y : Nat → Lbl) : Prop where
  at_ : ∀ i (hi : i < l.length), FAt W g (i * 10) { l[i] with x := Y i }
  f : ∀ o, W.frozen? ⟨g, o, none⟩ = false
  lt : g < W.heap.size
  s : ∀ i (hi : i < l.length), Own W B 3 l[i].va ((Y i).st.map (.int .i64))
  b : ∀ i (hi : i < l.length), Own W B 3 l[i].vb ((Y i).bo.map (.int .i64))
  c : ∀ i (hi : i < l.length), Own W B 3 l[i].vc ((Y i).cu.map (.int .i64))
/-- Its rows stand apart. -/
structure Split (g : Nat) (l : List Fd) : Prop where
  bb : ∀ i j (hi : i < l.length) (hj : j < l.length), i ≠ j → Apart l[i].vb l[j].vb
  ba : ∀ i j (hi : i < l.length) (hj : j < l.length), Apart l[i].vb l[j].va
  bc : ∀ i j (hi : i < l.length) (hj : j < l.length), Apart l[i].vb l[j].vc
  g : ∀ i (hi : i < l.length), l[i].va.ownBlock ≠ some g ∧ l[i].vb.ownBlock ≠ some g ∧ l[i].vc.ownBlock ≠ some g
theorem Fam.split {w : World} {B g n cap : Nat} {l : List Fd} (h : Fam w B (.slice (some ⟨g, 0, none⟩) n cap) l) : Split g l := by
  have hp := List.pairwise_flatMap.1 h.p
  have h2 := List.pairwise_iff_getElem.1 hp.2
  have one : ∀ i (hi : i < l.length), Apart l[i].va l[i].vb ∧ Apart l[i].va l[i].vc ∧ Apart l[i].vb l[i].vc := fun i hi => by
    have := hp.1 _ (List.getElem_mem hi)
    simp only [vals3, List.pairwise_cons, List.mem_cons, List.not_mem_nil, or_false, forall_eq_or_imp, forall_eq] at this
    exact ⟨this.1.1, this.1.2, this.2.1⟩
  have two : ∀ i j (hi : i < l.length) (hj : j < l.length), i ≠ j → ∀ u ∈ vals3 l[i], ∀ t ∈ vals3 l[j], Apart u t := fun i j hi hj hne u hu t ht => by
    rcases Nat.lt_or_gt_of_ne hne with h1 | h1
    · exact h2 i j hi hj h1 u hu t ht
    · exact (h2 j i hj hi h1 t ht u hu).symm
  refine ⟨fun i j hi hj hne => two i j hi hj hne _ (by simp [vals3]) _ (by simp [vals3]), fun i j hi hj => ?_, fun i j hi hj => ?_, fun i hi => ?_⟩
  · by_cases e : i = j
    · subst e; exact (one i hi).1.symm
    · exact two i j hi hj e _ (by simp [vals3]) _ (by simp [vals3])
  · by_cases e : i = j
    · subst e; exact (one i hi).2.2
    · exact two i j hi hj e _ (by simp [vals3]) _ (by simp [vals3])
  · have hq : ∀ u, u ∈ vals3 l[i] → u.ownBlock ≠ some g := fun u hu e => h.q u (List.mem_flatMap.2 ⟨_, List.getElem_mem hi, hu⟩) g e rfl
    exact ⟨hq _ (by simp [vals3]), hq _ (by simp [vals3]), hq _ (by simp [vals3])⟩
theorem FAt.heap {w w' : World} {g o : Nat} {f : Fd} (c : FAt w g o f) (e : w'.heap[g]? = w.heap[g]?) (hs : w.heap.size ≤ w'.heap.size) : FAt w' g o f :=
  ⟨(cell_of_heap e _).trans c.h, (cell_of_heap e _).trans c.c0, (cell_of_heap e _).trans c.c1, (cell_of_heap e _).trans c.c2, (cell_of_heap e _).trans c.c3, (cell_of_heap e _).trans c.c4, (cell_of_heap e _).trans c.c5, (cell_of_heap e _).trans c.c6, (cell_of_heap e _).trans c.c7, (cell_of_heap e _).trans c.c8, Nat.lt_of_lt_of_le c.lt hs⟩
namespace SB
variable {W W' : World} {B g : Nat} {l : List Fd} {Y : Nat → Lbl}
theorem below (h : SB W B g l Y) (hb : Below W.heap.size W W') : SB W' B g l Y :=
  ⟨fun i hi => (h.at_ i hi).below hb h.lt, fun o => (hb.frozen (p := ⟨g, o, none⟩) h.lt).trans (h.f o), Nat.lt_of_lt_of_le h.lt hb.size, fun i hi => (h.s i hi).after hb, fun i hi => (h.b i hi).after hb, fun i hi => (h.c i hi).after hb⟩
theorem same (h : SB W B g l Y) (e : W'.heap = W.heap) : SB W' B g l Y :=
  ⟨fun i hi => (h.at_ i hi).heap (by rw [e]) (by rw [e]; exact Nat.le_refl _), fun o => by have := h.f o; unfold World.frozen? at this ⊢; rw [e]; exact this, by rw [e]; exact h.lt,
   fun i hi => ⟨(h.s i hi).o.1, by rw [e]; exact (h.s i hi).o.2⟩, fun i hi => ⟨(h.b i hi).o.1, by rw [e]; exact (h.b i hi).o.2⟩, fun i hi => ⟨(h.c i hi).o.1, by rw [e]; exact (h.c i hi).o.2⟩⟩
theorem setGen (h : SB W B g l Y) (hs : Split g l) {k : Nat} (hk : k < l.length) (u : Int) : SB (W.setCell ⟨g, k * 10 + 3, none⟩ (.int .i64 u)) B g l (upd Y k { Y k with g := u }) := by
  have e : ∀ i, (upd Y k { Y k with g := u } i).st = (Y i).st ∧ (upd Y k { Y k with g := u } i).bo = (Y i).bo ∧ (upd Y k { Y k with g := u } i).cu = (Y i).cu := fun i => by
    unfold upd; split
    · rename_i h; subst h; exact ⟨rfl, rfl, rfl⟩
    · exact ⟨rfl, rfl, rfl⟩
  refine ⟨fun i hi => ?_, fun o => by rw [World.frozen?_setCell]; exact h.f o, by simpa using h.lt, fun i hi => ?_, fun i hi => ?_, fun i hi => ?_⟩
  · by_cases hik : i = k
    · subst hik; rw [upd_same]; exact (h.at_ i hi).setN2 u
    · rw [upd_other _ _ hik]; exact (h.at_ i hi).away (by omega)
  · rw [(e i).1]; exact (h.s i hi).setOther (hs.g i hi).1 _
  · rw [(e i).2.1]; exact (h.b i hi).setOther (hs.g i hi).2.1 _
  · rw [(e i).2.2]; exact (h.c i hi).setOther (hs.g i hi).2.2 _
theorem setBo (h : SB W B g l Y) (hs : Split g l) {k : Nat} (hk : k < l.length) {bk n c : Nat} (hv : l[k].vb = .slice (some ⟨bk, 0, none⟩) n c) (m : Nat) (u : Int) : SB (W.setCell ⟨bk, m, none⟩ (.int .i64 u)) B g l (upd Y k { Y k with bo := (Y k).bo.set m u }) := by
  have e : ∀ i, (upd Y k { Y k with bo := (Y k).bo.set m u } i).st = (Y i).st ∧ (upd Y k { Y k with bo := (Y k).bo.set m u } i).cu = (Y i).cu := fun i => by
    unfold upd; split
    · rename_i h; subst h; exact ⟨rfl, rfl⟩
    · exact ⟨rfl, rfl⟩
  have ob : l[k].vb.ownBlock = some bk := by rw [hv]; rfl
  have hbg : bk ≠ g := fun e => (hs.g k hk).2.1 (by rw [ob, e])
  refine ⟨fun i hi => ?_, fun o => ?_, by simpa using h.lt, fun i hi => ?_, fun i hi => ?_, fun i hi => ?_⟩
  · have hf := (h.at_ i hi).heap (w' := W.setCell ⟨bk, m, none⟩ (.int .i64 u)) (Below.heap_setCell _ _ _ _ (Ne.symm hbg)) (by simp)
    by_cases hik : i = k
    · subst hik; rw [upd_same]
      exact ⟨hf.h, hf.c0, hf.c1, hf.c2, hf.c3, hf.c4, hf.c5, hf.c6, hf.c7, hf.c8, hf.lt⟩
    · rw [upd_other _ _ hik]; exact hf
  · rw [World.frozen?_setCell]; exact h.f o
  · rw [(e i).1]; exact (h.s i hi).setOther (hs.ba k i hk hi bk ob) _
  · by_cases hik : i = k
    · subst hik
      rw [upd_same]
      have := h.b i hi
      rw [hv] at this ⊢
      show Own _ _ _ _ (((Y i).bo.set m u).map (.int .i64))
      rw [List.map_set]
      exact this.set m _
    · rw [upd_other _ _ hik]; exact (h.b i hi).setOther (hs.bb k i hk hi (Ne.symm hik) bk ob) _
  · rw [(e i).2]; exact (h.c i hi).setOther (hs.bc k i hk hi bk ob) _
end SB
/-- What is found now. -/
def curL (l : List Fd) (Y : Nat → Lbl) : List Fd := l.mapIdx fun i f => { f with x := Y i }
theorem curL_len (l : List Fd) (Y : Nat → Lbl) : (curL l Y).length = l.length := by simp [curL]
theorem curL_at {l : List Fd} {Y : Nat → Lbl} {i : Nat} (h : i < (curL l Y).length) : (curL l Y)[i] = { l[i]'(by rwa [curL_len] at h) with x := Y i } := by simp [curL]
theorem SB.reads {W : World} {B g cap : Nat} {l : List Fd} {Y : Nat → Lbl} (h : SB W B g l Y) (hl : ∀ i, i < l.length → (Y i).st.length ≤ 140737488355328 ∧ (Y i).bo.length ≤ 140737488355328 ∧ (Y i).cu.length ≤ 140737488355328) : FReads W (.slice (some ⟨g, 0, none⟩) l.length cap) (curL l Y) := by
  refine ⟨_, cap, by rw [curL_len], fun i hi => ⟨g, 0, rfl, ?_, ?_⟩⟩
  · have h1 := hi
    rw [curL_len] at h1
    rw [curL_at hi, Nat.zero_add]; exact h.at_ i h1
  · have h1 := hi
    rw [curL_len] at h1
    obtain ⟨l1, l2, l3⟩ := hl i h1
    rw [curL_at hi]
    exact ⟨(h.s i h1).reads, (h.b i h1).reads, (h.c i h1).reads, l1, l2, l3⟩
theorem Fam.sb {w : World} {B g n cap : Nat} {l : List Fd} (h : Fam w B (.slice (some ⟨g, 0, none⟩) n cap) l) (hl : ∀ f ∈ l, f.x.st.length ≤ 140737488355328 ∧ f.x.bo.length ≤ 140737488355328 ∧ f.x.cu.length ≤ 140737488355328) (Y : Nat → Lbl) (hY : ∀ i (hi : i < l.length), Y i = l[i].x) : SB w B g l Y := by
  have hb := h.box (h.lr hl)
  refine ⟨fun i hi => by rw [hY i hi]; exact hb.at_ i hi, hb.f, hb.lt, fun i hi => ?_, fun i hi => ?_, fun i hi => ?_⟩
  · rw [hY i hi]; exact h.s _ (List.getElem_mem hi)
  · rw [hY i hi]; exact h.b _ (List.getElem_mem hi)
  · rw [hY i hi]; exact h.c _ (List.getElem_mem hi)
/-- The family whose slot m is elder. -/
structure StaleF (x : Lbl) (gens : List Int) (n m : Nat) (l : List Fd) (Y : Nat → Lbl) : Prop where
  fam : IsFam x gens n l
  hm : m < n
  hg : x.g + 2 < 1099511627776
  oth : ∀ i, i < n → i ≠ m → Y i = { famX x gens i with g := famG x gens i + 2, bo := x.bo.set m (x.bo.getD m 0 + 1) }
  own : ∃ bm, Y m = { famX x gens m with g := max 1 (x.bo.getD m 0), bo := bm } ∧ bm.length = n ∧ ∀ i, i < n → bm.getD i 0 = min (x.bo.getD i 0) (max 1 (x.bo.getD m 0))
namespace StaleF
variable {x : Lbl} {gens : List Int} {n m : Nat} {l : List Fd} {Y : Nat → Lbl}
theorem boR (h : StaleF x gens n m l Y) {i : Nat} (hi : i < n) : 0 ≤ x.bo.getD i 0 ∧ x.bo.getD i 0 ≤ x.g := by
  have r := ((right_iff x).1 h.fam.r).bos
  have hl := h.fam.nat.2.2.2.1
  rw [List.getD_eq_getElem?_getD, List.getElem?_eq_getElem (by omega)]
  exact r _ (List.getElem_mem _)
theorem gR (h : StaleF x gens n m l Y) {i : Nat} (hi : i < n) : 1 ≤ famG x gens i ∧ famG x gens i ≤ x.g ∧ ∀ j, j < n → x.bo.getD j 0 ≤ famG x gens i := by
  have a := famX_ok h.fam.r gens (i := i) (by rw [h.fam.sz]; exact hi)
  refine ⟨a.2.1, a.2.2, fun j hj => ?_⟩
  have hl := h.fam.nat.2.2.2.1
  refine (mx_ge _ x.bo).2 _ ?_
  rw [List.getD_eq_getElem?_getD, List.getElem?_eq_getElem (by omega)]
  exact List.getElem_mem _
theorem right (h : StaleF x gens n m l Y) {i : Nat} (hi : i < n) : rightB (Y i) = true := by
  have a := (right_iff _).1 (famX_ok h.fam.r gens (i := i) (by rw [h.fam.sz]; exact hi)).1
  have hg := h.gR hi
  have hn := h.fam.nat
  have hx := h.hg
  have hxr := (right_iff x).1 h.fam.r
  by_cases e : i = m
  · subst e
    obtain ⟨bm, hy, hl, hb⟩ := h.own
    rw [hy]
    have hB := h.boR hi
    refine (right_iff _).2 ⟨a.i, a.s, ?_, a.st, ?_, a.cu, a.sts, ?_, a.cus⟩
    · show 1 ≤ max 1 _ ∧ max 1 _ ≤ _; omega
    · show (bm.length : Int) = nS x; omega
    · show ∀ n ∈ bm, 0 ≤ n ∧ n ≤ max 1 _
      intro u hu
      obtain ⟨j, hj, rfl⟩ := List.getElem_of_mem hu
      have := hb j (by omega)
      rw [List.getD_eq_getElem?_getD, List.getElem?_eq_getElem hj] at this
      have hB2 := h.boR (i := j) (by omega)
      simp only [Option.getD_some] at this
      omega
  · rw [h.oth i hi e]
    have hB := h.boR h.hm
    refine (right_iff _).2 ⟨a.i, a.s, ?_, a.st, ?_, a.cu, a.sts, ?_, a.cus⟩
    · show 1 ≤ famG x gens i + 2 ∧ famG x gens i + 2 ≤ _; omega
    · show ((x.bo.set m _).length : Int) = nS x; rw [List.length_set]; omega
    · show ∀ n ∈ x.bo.set m _, 0 ≤ n ∧ n ≤ famG x gens i + 2
      intro u hu
      have hm := hg.2.2 m h.hm
      rcases List.mem_or_eq_of_mem_set hu with h1 | rfl
      · have := hxr.bos u h1
        have hu2 := (mx_ge (max 1 (x.g - atN gens i 3)) x.bo).2 u h1
        have : u ≤ famG x gens i := hu2
        omega
      · omega
theorem base (h : StaleF x gens n m l Y) {i : Nat} (hi : i < n) : (Y i).i = x.i ∧ (Y i).s = (i : Int) ∧ nS (Y i) = nS x ∧ (Y i).st = x.st ∧ (Y i).cu = x.cu ∧ (Y i).bo.length = n ∧ (Y i).k = x.k ∧ (Y i).m = x.m ∧ (Y i).b = x.b := by
  have hl := h.fam.nat.2.2.2.1
  by_cases e : i = m
  · subst e
    obtain ⟨bm, hy, hl, hb⟩ := h.own
    rw [hy]; exact ⟨rfl, rfl, rfl, rfl, rfl, hl, rfl, rfl, rfl⟩
  · rw [h.oth i hi e]; exact ⟨rfl, rfl, rfl, rfl, rfl, by simpa using hl, rfl, rfl, rfl⟩
theorem cnt (h : StaleF x gens n m l Y) {i : Nat} (hi : i < n) : cntB x.i (curL l Y) i = true := by
  have h1 : i < (curL l Y).length := by rw [curL_len, h.fam.len]; exact hi
  obtain ⟨e1, e2, e3, _⟩ := h.base hi
  have hlen : (curL l Y).length = n := by rw [curL_len]; exact h.fam.len
  have hil : i < l.length := by rw [h.fam.len]; exact hi
  have hh := h.fam.h _ (List.getElem_mem hil)
  rw [cntB_at h1]
  simp only [curL_at h1, hlen, h.right hi, e1, e2, e3, h.fam.nat.1, hh]
  simp
theorem best (h : StaleF x gens n m l Y) : ∃ b, b < n ∧ b ≠ m ∧ choL x.i (curL l Y) = Y b ∧ choU x.i (curL l Y) = uses x.i (curL l Y) b ∧ choE x.i (curL l Y) = 0 ∧ (uses x.i (curL l Y) b).length = n ∧ (uses x.i (curL l Y) b).getD m true = false ∧ (Y b).g < 1099511627776 := by
  have hn := h.fam.nat
  have hl : (curL l Y).length = n := by rw [curL_len]; exact h.fam.len
  have hm := h.hm
  obtain ⟨b, hb⟩ := bestTo_some (k := (curL l Y).length) (i := 0) (by omega) (h.cnt (by omega))
  have hbn : b < n := by have := (bestTo_lt hb).1; omega
  have hbl : b < (curL l Y).length := by omega
  have hml : m < (curL l Y).length := by omega
  have gA : ∀ i, i < n → gAt (curL l Y) i = (Y i).g := fun i hi => by
    have : i < (curL l Y).length := by omega
    rw [gAt_at this, curL_at this]
  have hbm : b ≠ m := by
    rintro rfl
    obtain ⟨i, hi, hne⟩ : ∃ i, i < n ∧ i ≠ b := if h0 : b = 0 then ⟨1, by omega, by omega⟩ else ⟨0, by omega, by omega⟩
    have h2 := (bestTo_top hb).1 i (by omega) (h.cnt hi)
    rw [gA i hi, gA b hbn, h.oth i hi hne] at h2
    obtain ⟨bm, hy, _⟩ := h.own
    rw [hy] at h2
    have hg := h.gR hi
    have := hg.2.2 b hbn
    have h3 : famG x gens i + 2 ≤ max 1 (x.bo.getD b 0) := h2
    omega
  refine ⟨b, hbn, hbm, ?_, ?_, ?_, by rw [uses_len]; exact hl, ?_, ?_⟩
  · unfold choL; rw [hb]; simp only; rw [List.getElem?_eq_getElem hbl, curL_at hbl]
  · unfold choU; rw [hb]
  · unfold choE; rw [hb]
  · rw [uses_get _ _ _ _ hml, useB_at hbl hml, curL_at hml, curL_at hbl]
    have : ((Y m).bo.getD m 0 == (Y b).bo.getD m 0) = false := by
      obtain ⟨bm, hy, hbl, hbb⟩ := h.own
      have e1 : (Y m).bo.getD m 0 = min (x.bo.getD m 0) (max 1 (x.bo.getD m 0)) := by rw [hy]; exact hbb m hm
      have e2 : (Y b).bo.getD m 0 = x.bo.getD m 0 + 1 := by
        rw [h.oth b hbn hbm]
        show (x.bo.set m _).getD m 0 = _
        rw [List.getD_eq_getElem?_getD, List.getElem?_set_self (by omega)]; rfl
      rw [e1, e2, beq_eq_false_iff_ne]; omega
    simp only [this, Bool.and_false]
  · rw [h.oth b hbn hbm]
    show famG x gens b + 2 < _
    have := (h.gR hbn).2.1
    have := h.hg
    omega
end StaleF
set_option maxRecDepth 100000 in
set_option maxHeartbeats 4000000 in
theorem lstale_walk (r : Lbl) (vs vb vc : Value) (gens : List Int) (v : Value) (sl : Int) (w : World) (hx : LR w r vs vb vc) (hn : NumsOk r) (hl : Reads w v (gens.map (.int .i64))) (hl1 : ∀ n ∈ gens, -9223372036854775808 ≤ n ∧ n ≤ 9223372036854775807) (hl2 : gens.length ≤ 140737488355328) (hsl : -9223372036854775808 ≤ sl ∧ sl ≤ 9223372036854775807) :
    Calls Tryd.prog 7 #[r.v vs vb vc, v, .int .i64 sl] w (Tells w (.bool true)) := by
  have A0 : LblBox (w.alloc (.cells #[.int .i64 r.i, .int .i64 r.s, .int .i64 r.g, .int .i64 r.k, .int .i64 r.m, .int .i64 r.b, vs, vb, vc] 36)) w.heap.size r vs vb vc := ⟨LblAt.made w r vs vb vc 36, fun o => frozen_of_row _ _ _ _ _ (heap_alloc_new _ _)⟩
  have B0 : Below w.heap.size w (w.alloc (.cells #[.int .i64 r.i, .int .i64 r.s, .int .i64 r.g, .int .i64 r.k, .int .i64 r.m, .int .i64 r.b, vs, vb, vc] 36)) := (Below.refl _ _).alloc (Nat.le_refl _) _
  have gg := pk_rng r.g 549755813888 (by omega)
  unfold Lbl.v
  go_enter Tryd.func7, Tryd.ntmps7
  go_upto_region 1 with (fail)
  generalize w.alloc (.cells #[.int .i64 r.i, .int .i64 r.s, .int .i64 r.g, .int .i64 r.k, .int .i64 r.m, .int .i64 r.b, vs, vb, vc] 36) = w0 at *
  obtain ⟨p, hp⟩ : ∃ p, w.heap.size = p := ⟨_, rfl⟩
  rw [hp] at A0 B0 ⊢
  replace hp := Lib.hid hp
  go_wp2_with (fail)
  refine (awake10_any w0).mono ?_
  rintro e w1 ⟨rfl, b1⟩
  have A1 := A0.below b1 A0.a.lt
  have B1 := B0.trans (b1.mono (Nat.le_of_lt A0.a.lt))
  clear A0 B0 b1
  have a2 := A1.a.c2
  have f2 := A1.f 2
  have la := A1.a.lt
  have v5 : IntKind.i64.wrap (5 + pk r.g 549755813888) = 5 + pk r.g 549755813888 := IntWalk.i64_in _ (by omega)
  go_wp2_with (fail)
  refine (pick10_any r.g 549755813888 w1 hn.g.1 hn.g.2 (by omega) (by omega)).mono ?_
  rintro e w' ⟨rfl, rfl⟩
  have A2 := A1.num2 (5 + pk r.g 549755813888)
  have B2 := B1.setCell (p := ⟨p, 2, none⟩) (Nat.le_refl p) (.int .i64 (5 + pk r.g 549755813888))
  have hn1 : NumsOk { r with g := 5 + pk r.g 549755813888 } := ⟨hn.i, hn.s, ⟨by show _ ≤ 5 + pk r.g 549755813888; omega, by show 5 + pk r.g 549755813888 ≤ _; omega⟩, hn.k, hn.m, hn.b, hn.st, hn.bo, hn.cu⟩
  have hx1 : (fitL { r with g := 5 + pk r.g 549755813888 }).g + 2 < 1099511627776 := by
    have e1 : (fitL { r with g := 5 + pk r.g 549755813888 }).g = 1 + pk (5 + pk r.g 549755813888) 1099511627776 := rfl
    have e2 : ∀ z : Int, 0 ≤ z → z < 549755813888 → pk (5 + z) 1099511627776 = 5 + z := fun z h1 h2 => by
      unfold pk; rw [if_neg (by omega), Int.emod_eq_of_lt (by omega) (by omega)]
    rw [e1, e2 _ gg.1 gg.2]; omega
  clear hn
  go_upto_region 3 with (fail)
  clear A1 B1 f2 a2
  generalize w1.setCell ⟨p, 2, none⟩ (.int .i64 (5 + pk r.g 549755813888)) = w2 at *
  have bw2 : Below w.heap.size w w2 := by rw [hp.out]; exact B2
  have L2 : LR w2 { r with g := 5 + pk r.g 549755813888 } vs vb vc := by
    have := hx.below bw2
    exact ⟨this.s, this.b, this.c, this.ls, this.lb, this.lc⟩
  have cF2 := family_any { r with g := 5 + pk r.g 549755813888 } vs vb vc gens v w2 L2 hn1 (hl.below bw2) hl1 hl2
  clear hx gg hn1 L2 hl hl1 hl2 v5
  generalize ({ r with g := 5 + pk r.g 549755813888 } : Lbl) = q at *
  have hfo := fit_ok q
  have ⟨e0, e1, e2, e3, e4, e5, e6, e7, e8, elt⟩ := A2.a
  unfold Lbl.v at cF2
  go_wp2_with (fail)
  refine cF2.mono ?_
  rintro e w3 hg
  obtain ⟨v3, l, rfl, hF, hM, b3⟩ := hg.fam hfo
  clear hg cF2 e0 e1 e2 e3 e4 e5 e6 e7 e8 A2 elt la
  generalize fitL q = x at *
  have B3 : Below w.heap.size w w3 := bw2.trans (b3.mono bw2.size)
  have hs3 := b3.size
  have hw2 := bw2.size
  clear bw2 B2 b3
  obtain ⟨n, hN⟩ : ∃ n, x.st.length = n := ⟨_, rfl⟩
  rw [hN] at hF
  have hnx := hF.nat
  have hn2 : 2 ≤ n ∧ n ≤ 7 := ⟨hnx.2.1, hnx.2.2.1⟩
  have hbo : x.bo.length = n := hnx.2.2.2.1
  have hll := hF.len
  obtain ⟨g, cap, rfl, hg1, _⟩ := hM.o.form (by omega)
  rw [hll] at hM ⊢
  have hSp := hM.split
  have hS3 := hM.sb hF.lens (famX x gens) (fun i hi => (hF.at_ hi).symm)
  have hvb : Hid (∀ i (hi : i < l.length), ∃ bk c, l[i].vb = .slice (some ⟨bk, 0, none⟩) n c ∧ w.heap.size ≤ bk) := Lib.hid fun i hi => by
    have hb := hS3.b i hi
    have hlen : ((famX x gens i).bo.map (Value.int .i64)).length = n := by rw [List.length_map]; exact hbo
    obtain ⟨bk, c, e, h1, _⟩ := hb.form (by omega)
    rw [hlen] at e
    exact ⟨bk, c, e, by omega⟩
  have hgw : w.heap.size ≤ g := by omega
  clear hM hnx hN hs3 hw2 hg1
  replace hF := Lib.hid hF
  replace hbo := Lib.hid hbo
  obtain ⟨m, hm, hmn⟩ : ∃ m : Nat, pk sl (n : Int) = (m : Int) ∧ (m : Int) < (n : Int) := by
    have := pk_rng sl (n : Int) (by omega)
    exact ⟨(pk sl (n : Int)).toNat, by omega, by omega⟩
  have cP := pick10_any sl (n : Int) w3 hsl.1 hsl.2 (by omega) (by omega)
  rw [hm] at cP
  go_wp2_with (fail)
  refine cP.mono ?_
  rintro e w' ⟨rfl, rfl⟩
  clear cP hm
  have hmn' : m < n := by omega
  obtain ⟨o, ho⟩ : ∃ o, x.bo.getD m 0 = o := ⟨_, rfl⟩
  have hoR : Hid (0 ≤ o ∧ o ≤ x.g) := Lib.hid (by
    have r := ((right_iff x).1 hfo).bos
    rw [← ho, List.getD_eq_getElem?_getD, List.getElem?_eq_getElem (by rw [hbo.out]; exact hmn')]
    exact r _ (List.getElem_mem _))
  go_wp2_with (fail)
  go_loopw [11] (fun a W => ∃ k : Nat, k ≤ n ∧ a = .int .i64 (k : Int) ∧ ∃ Y : Nat → Lbl, SB W w2.heap.size g l Y ∧ (∀ i, i < k → Y i = { famX x gens i with g := famG x gens i + 2, bo := x.bo.set m (o + 1) }) ∧ (∀ i, k ≤ i → Y i = famX x gens i) ∧ Below w.heap.size w W) (fun a _ => n - (intOf a).toNat)
  case atStart => exact ⟨0, Nat.zero_le _, rfl, famX x gens, hS3, fun i hi => absurd hi (Nat.not_lt_zero _), fun _ _ => rfl, B3⟩
  case round =>
    obtain ⟨k, hk, rfl, Y, hS, hY1, hY2, hB⟩ := hrel
    rename World => W
    clear hS3 B3
    by_cases hkn : k < n
    · have y1 : (k : Int) < (n : Int) := by omega
      have hkl : k < l.length := by omega
      have F := (hS.at_ k hkl).c2
      have z0 := hS.f (k * 10 + 3)
      have hYk := hY2 k (Nat.le_refl _)
      simp only [hYk] at F
      have hgk := (famX_ok hfo gens (i := k) (by have := hF.out.sz; omega)).2
      have v1 : IntKind.i64.wrap ((famX x gens k).g + 2) = (famX x gens k).g + 2 := IntWalk.i64_in _ (by omega)
      have S1 := hS.setGen hSp hkl ((famX x gens k).g + 2)
      have B1 := hB.setCell (p := ⟨g, k * 10 + 3, none⟩) hgw (.int .i64 ((famX x gens k).g + 2))
      go_upto_region 10 with (fail)
      clear F z0 v1 hS hB
      generalize W.setCell ⟨g, k * 10 + 3, none⟩ (.int .i64 ((famX x gens k).g + 2)) = W1 at *
      obtain ⟨bk, c, hvk, hbk⟩ := hvb.out k hkl
      have F := (S1.at_ k hkl).c7
      have Ob := S1.b k hkl
      simp only [hvk, upd_same, hYk] at F Ob
      have hml : m < ((famX x gens k).bo.map (Value.int .i64)).length := by rw [List.length_map]; show m < x.bo.length; rw [hbo.out]; exact hmn'
      have hco := Ob.cell (i := m) hml
      have ecell : ((famX x gens k).bo.map (Value.int .i64)).getD m .nilFunc = .int .i64 o := by
        show (x.bo.map (Value.int .i64)).getD m .nilFunc = _
        rw [← ho]
        simp [List.getD_eq_getElem?_getD, show m < x.bo.length by rw [hbo.out]; exact hmn']
      rw [ecell] at hco
      have hfz := Ob.frozen m
      have hob := hoR.out
      have v2 : IntKind.i64.wrap (o + 1) = o + 1 := IntWalk.i64_in _ (by omega)
      have fin : Hid (∀ V : World, V.heap = (W1.setCell ⟨bk, m, none⟩ (.int .i64 (o + 1))).heap → Below w.heap.size w V → ∃ Y, SB V w2.heap.size g l Y ∧ (∀ i, i < k + 1 → Y i = { famX x gens i with g := famG x gens i + 2, bo := x.bo.set m (o + 1) }) ∧ (∀ i, k + 1 ≤ i → Y i = famX x gens i) ∧ Below w.heap.size w V) := Lib.hid fun V hV hb => by
        have S2 := (S1.setBo hSp hkl hvk m (o + 1)).same hV
        refine ⟨_, S2, fun i hi => ?_, fun i hi => ?_, hb⟩
        · by_cases hik : i = k
          · subst hik
            rw [upd_same, upd_same, hYk]; rfl
          · rw [upd_other _ _ hik, upd_other _ _ hik]; exact hY1 i (by omega)
        · rw [upd_other _ _ (by omega), upd_other _ _ (by omega)]; exact hY2 i (by omega)
      clear hY1 hY2 hYk Ob S1 ecell hml hgk
      go_region_with (fail)
      all_goals
        go_wp2_with (fail)
        go_roundw
        case rel =>
          refine ⟨k + 1, by omega, by go_num, fin.out _ ?_ ?_⟩
          · rfl
          · first | exact (B1.setCell (p := ⟨bk, m, none⟩) hbk _).drew | exact B1.drew.setCell (p := ⟨bk, m, none⟩) hbk _ | exact (B1.drew.setCell (p := ⟨bk, m, none⟩) hbk _).drew
        case measure => simp [intOf]; omega
    · obtain rfl : k = n := by omega
      have y1 : ¬ ((k : Int) < (k : Int)) := by omega
      clear hY2
      have hml : m < l.length := by omega
      obtain ⟨bk, c, hvk, hbk⟩ := hvb.out m hml
      have F := (hS.at_ m hml).c7
      have Ob := hS.b m hml
      have hYm := hY1 m hmn'
      simp only [hvk, hYm] at F Ob
      have hml2 : m < ((x.bo.set m (o + 1)).map (Value.int .i64)).length := by rw [List.length_map, List.length_set, hbo.out]; exact hmn'
      have hco := Ob.cell (i := m) hml2
      have ecell : ((x.bo.set m (o + 1)).map (Value.int .i64)).getD m .nilFunc = .int .i64 (o + 1) := by
        simp [List.getD_eq_getElem?_getD, show m < x.bo.length by rw [hbo.out]; exact hmn']
      rw [ecell] at hco
      have hfz := Ob.frozen m
      have hob := hoR.out
      have v2 : IntKind.i64.wrap o = o := IntWalk.i64_in _ (by omega)
      have fin : Hid (∀ V : World, V.heap = (W.setCell ⟨bk, m, none⟩ (.int .i64 o)).heap → Below w.heap.size w V → ∃ Y, SB V w2.heap.size g l Y ∧ (∀ i, i < k → i ≠ m → Y i = { famX x gens i with g := famG x gens i + 2, bo := x.bo.set m (o + 1) }) ∧ Y m = { famX x gens m with g := famG x gens m + 2 } ∧ Below w.heap.size w V) := Lib.hid fun V hV hb => by
        have S2 := (hS.setBo hSp hml hvk m o).same hV
        refine ⟨_, S2, fun i hi hne => ?_, ?_, hb⟩
        · rw [upd_other _ _ hne]; exact hY1 i hi
        · rw [upd_same, hYm]
          simp only [List.set_set]
          have : x.bo.set m o = x.bo := by rw [← ho, List.getD_eq_getElem?_getD, List.getElem?_eq_getElem (by rw [hbo.out]; exact hmn')]; exact List.set_getElem_self _
          rw [this]; rfl
      clear hY1 hYm ecell hml2
      go_upto_region 11 with (fail)
      go_cut [] from 71 to 88 (fun wx => ∃ Y, SB wx w2.heap.size g l Y ∧ (∀ i, i < k → i ≠ m → Y i = { famX x gens i with g := famG x gens i + 2, bo := x.bo.set m (o + 1) }) ∧ Y m = { famX x gens m with g := famG x gens m + 2 } ∧ Below w.heap.size w wx)
      case first =>
        clear hS Ob
        go_region_with (fail)
        all_goals
          go_wp2_with (fail)
          go_meet
          refine fin.out _ ?_ ?_
          · rfl
          · first | exact (hB.setCell (p := ⟨bk, m, none⟩) hbk _).drew | exact hB.drew.setCell (p := ⟨bk, m, none⟩) hbk _ | exact (hB.drew.setCell (p := ⟨bk, m, none⟩) hbk _).drew
      case rest =>
        obtain ⟨Y', S2, hZ, hYm, B2⟩ := hcut
        clear hS hB fin F Ob hco hfz v2
        rename World => W2'
        have F7 := (S2.at_ m hml).c7
        have F2 := (S2.at_ m hml).c2
        have z3 := S2.f (m * 10 + 3)
        have Ob := S2.b m hml
        simp only [hvk, hYm] at F7 F2 Ob
        have hml2 : m < ((famX x gens m).bo.map (Value.int .i64)).length := by rw [List.length_map]; show m < x.bo.length; rw [hbo.out]; exact hmn'
        have hco := Ob.cell (i := m) hml2
        have ecell : ((famX x gens m).bo.map (Value.int .i64)).getD m .nilFunc = .int .i64 o := by
          show (x.bo.map (Value.int .i64)).getD m .nilFunc = _
          rw [← ho]
          simp [List.getD_eq_getElem?_getD, show m < x.bo.length by rw [hbo.out]; exact hmn']
        rw [ecell] at hco
        have S3 := S2.setGen hSp hml (max 1 o)
        have B3 := B2.setCell (p := ⟨g, m * 10 + 3, none⟩) hgw (.int .i64 (max 1 o))
        have hZ3 : ∀ i, i < k → i ≠ m → upd Y' m { Y' m with g := max 1 o } i = { famX x gens i with g := famG x gens i + 2, bo := x.bo.set m (o + 1) } := fun i hi hne => by rw [upd_other _ _ hne]; exact hZ i hi hne
        have hM3 : upd Y' m { Y' m with g := max 1 o } m = { famX x gens m with g := max 1 o, bo := x.bo } := by rw [upd_same, hYm]; rfl
        generalize upd Y' m { Y' m with g := max 1 o } = Y3 at *
        go_upto_region 13 with (fail)
        clear F7 F2 z3 Ob hco ecell S2 B2 hZ hYm hml2
        generalize W2'.setCell ⟨g, m * 10 + 3, none⟩ (.int .i64 (max 1 o)) = W3 at *
        go_wp2_with (fail)
        go_loopw [12] (fun a V => ∃ i : Nat, i ≤ k ∧ a = .int .i64 (i : Int) ∧ ∃ Y : Nat → Lbl, SB V w2.heap.size g l Y ∧ (∀ i, i < k → i ≠ m → Y i = { famX x gens i with g := famG x gens i + 2, bo := x.bo.set m (o + 1) }) ∧ (∃ bm, Y m = { famX x gens m with g := max 1 o, bo := bm } ∧ bm.length = k ∧ ∀ j, j < k → bm.getD j 0 = if j < i then min (x.bo.getD j 0) (max 1 o) else x.bo.getD j 0) ∧ Below w.heap.size w V) (fun a _ => k - (intOf a).toNat)
        case atStart => exact ⟨0, Nat.zero_le _, rfl, Y3, S3, hZ3, ⟨x.bo, hM3, hbo.out, fun j _ => by rw [if_neg (Nat.not_lt_zero _)]⟩, B3⟩
        case round =>
          obtain ⟨i, hi, rfl, Y4, S4, hZ4, ⟨bm, hM4, hbl, hbg⟩, B4⟩ := hrel
          rename World => V
          clear S3 hZ3 hM3 B3
          by_cases hik : i < k
          · have y3 : (i : Int) < (k : Int) := by omega
            have F7 := (S4.at_ m hml).c7
            have F2 := (S4.at_ m hml).c2
            have Ob := S4.b m hml
            simp only [hvk, hM4] at F7 F2 Ob
            have hcc : V.cell? ⟨bk, i, none⟩ = some (.int .i64 (x.bo.getD i 0)) := by
              rw [Ob.cell (i := i) (by rw [List.length_map]; omega)]
              have := hbg i hik
              rw [if_neg (Nat.lt_irrefl _)] at this
              rw [← this]
              simp [List.getD_eq_getElem?_getD, show i < bm.length by omega]
            have hfz := Ob.frozen i
            obtain ⟨d, hd⟩ : ∃ d, x.bo.getD i 0 = d := ⟨_, rfl⟩
            have fin : Hid (∀ V' : World, V'.heap = (V.setCell ⟨bk, i, none⟩ (.int .i64 (min d (max 1 o)))).heap → Below w.heap.size w V' → ∃ Y : Nat → Lbl, SB V' w2.heap.size g l Y ∧ (∀ i, i < k → i ≠ m → Y i = { famX x gens i with g := famG x gens i + 2, bo := x.bo.set m (o + 1) }) ∧ (∃ bm, Y m = { famX x gens m with g := max 1 o, bo := bm } ∧ bm.length = k ∧ ∀ j, j < k → bm.getD j 0 = if j < i + 1 then min (x.bo.getD j 0) (max 1 o) else x.bo.getD j 0) ∧ Below w.heap.size w V') := Lib.hid fun V' hV hb => by
              have S5 := (S4.setBo hSp hml hvk i (min d (max 1 o))).same hV
              refine ⟨_, S5, fun j hj hne => ?_, ⟨bm.set i (min d (max 1 o)), ?_, by rw [List.length_set]; exact hbl, fun j hj => ?_⟩, hb⟩
              · rw [upd_other _ _ hne]; exact hZ4 j hj hne
              · rw [upd_same, hM4]
              · by_cases hij : i = j
                · subst hij
                  rw [List.getD_eq_getElem?_getD, List.getElem?_set_self (by omega), if_pos (Nat.lt_succ_self _), hd]; rfl
                · have := hbg j hj
                  rw [List.getD_eq_getElem?_getD, List.getElem?_set_ne hij, ← List.getD_eq_getElem?_getD, this]
                  by_cases h1 : j < i
                  · rw [if_pos h1, if_pos (by omega)]
                  · rw [if_neg h1, if_neg (by omega)]
            rw [hd] at hcc
            clear hZ4 hM4 hbg S4 Ob hd
            go_wp2_with (fail)
            go_region_with (fail)
            all_goals
              go_wp2_with (fail)
              go_roundw
              case rel =>
                refine ⟨i + 1, by omega, by go_num, fin.out _ ?_ ?_⟩
                · rfl
                · first | exact (B4.setCell (p := ⟨bk, i, none⟩) hbk _).drew | exact B4.drew.setCell (p := ⟨bk, i, none⟩) hbk _ | exact (B4.drew.setCell (p := ⟨bk, i, none⟩) hbk _).drew
              case measure => simp [intOf]; omega
          · obtain rfl : i = k := by omega
            have y3 : ¬ ((i : Int) < (i : Int)) := by omega
            have hSt : StaleF x gens i m l Y4 := ⟨hF.out, hmn', hx1, fun j hj hne => by rw [ho]; exact hZ4 j hj hne, ⟨bm, by rw [ho]; exact hM4, hbl, fun j hj => by rw [ho]; have := hbg j hj; rwa [if_pos hj] at this⟩⟩
            have FR := S4.reads (cap := cap) (fun j hj => by
              have hb := hSt.base (i := j) (by omega)
              have hn := hF.out.nat
              rw [hb.2.2.2.1, hb.2.2.2.2.1, hb.2.2.2.2.2.1]
              have := hF.out.sz
              omega)
            rw [hll] at FR
            obtain ⟨b, hbn, hbm, q1, q2, q3, hul, hum, hgl⟩ := hSt.best
            have cC := choose_any x.i (.slice (some ⟨g, 0, none⟩) i cap) (curL l Y4) V FR (by rw [curL_len]; omega)
            rw [q1, q2, q3] at cC
            have hyr := hSt.right hbn
            have hys := (hSt.base hbn).2.1
            have hst := (hSt.base hbn).2.2.2.1
            have hcu := (hSt.base hbn).2.2.2.2.1
            have hbl2 := (hSt.base hbn).2.2.2.2.2.1
            have hstl : (Y4 b).st.length = i := by rw [hst]; exact hF.out.sz
            have hcul : (Y4 b).cu.length = i := by rw [hcu]; exact hF.out.nat.2.2.2.2
            generalize uses x.i (curL l Y4) b = us at *
            generalize Y4 b = y at *
            clear q1 q2 q3 hSt FR S4 hZ4 hM4 hbg hst hcu hbl hfo hx1 hoR ho hvb hkn hik hk hi hll
            have hbs := B4.size
            have tm : (y.s == (m : Int)) = false := by rw [hys, beq_eq_false_iff_ne]; omega
            have hz1 := (nextL_ok hyr hgl (us := us) (by omega))
            have hzr := nexted_ok hyr hgl us
            have hzg : Hid ((nexted y us).g = y.g + 1) := Lib.hid rfl
            have hzl : (nexted y us).st.length = i ∧ (nexted y us).bo.length = i ∧ (nexted y us).cu.length = i := ⟨(mask_len _ _).trans hstl, hbl2, (mask_len _ _).trans hcul⟩
            have hzs : Hid (∀ j, j < i → (nexted y us).st.getD j 0 = (if us.getD j true then y.st.getD j 0 else 0) ∧ (nexted y us).bo.getD j 0 = y.bo.getD j 0 ∧ (nexted y us).cu.getD j 0 = (if us.getD j true then y.cu.getD j 0 else 0)) := Lib.hid fun j hj => ⟨mask_get us y.st j (by omega) (by omega), rfl, mask_get us y.cu j (by omega) (by omega)⟩
            have hyg := (right_iff y).1 hyr |>.g
            have v6 : IntKind.i64.wrap (y.g + 1) = y.g + 1 := IntWalk.i64_in _ (by omega)
            clear hys hbm
            go_wp2_with (fail)
            refine cC.mono ?_
            rintro e w8 ⟨xa, xb, xc, xu, rfl, O8, U8, b8⟩
            clear cC
            obtain ⟨a1, d1, rfl, -⟩ := O8.a.form (by simp; omega)
            obtain ⟨a2, d2, rfl, -⟩ := O8.b.form (by simp; omega)
            obtain ⟨a3, d3, rfl, -⟩ := O8.c.form (by simp; omega)
            obtain ⟨ug, ud, rfl, -⟩ := U8.form (by simp; omega)
            simp only [List.length_map, hstl, hbl2, hcul, hul] at O8 U8 ⊢
            have Y8 : LblBox (w8.alloc (.cells #[.int .i64 y.i, .int .i64 y.s, .int .i64 y.g, .int .i64 y.k, .int .i64 y.m, .int .i64 y.b, .slice (some ⟨a1, 0, none⟩) i d1, .slice (some ⟨a2, 0, none⟩) i d2, .slice (some ⟨a3, 0, none⟩) i d3] 26)) w8.heap.size y (.slice (some ⟨a1, 0, none⟩) i d1) (.slice (some ⟨a2, 0, none⟩) i d2) (.slice (some ⟨a3, 0, none⟩) i d3) := ⟨LblAt.made w8 y (.slice (some ⟨a1, 0, none⟩) i d1) (.slice (some ⟨a2, 0, none⟩) i d2) (.slice (some ⟨a3, 0, none⟩) i d3) 26, fun o => frozen_of_row _ _ _ _ _ (heap_alloc_new _ _)⟩
            have bk8 : Below w8.heap.size w8 (w8.alloc (.cells #[.int .i64 y.i, .int .i64 y.s, .int .i64 y.g, .int .i64 y.k, .int .i64 y.m, .int .i64 y.b, .slice (some ⟨a1, 0, none⟩) i d1, .slice (some ⟨a2, 0, none⟩) i d2, .slice (some ⟨a3, 0, none⟩) i d3] 26)) := (Below.refl _ _).alloc (Nat.le_refl _) _
            simp only [Lbl.v]
            go_upto_region 18 with (fail)
            have O9 := O8.after bk8
            have U9 := U8.after bk8
            have B9 := B4.trans ((b8.trans (bk8.mono b8.size)).mono hbs)
            clear O8 U8 bk8 b8 B4
            generalize w8.alloc (.cells #[.int .i64 y.i, .int .i64 y.s, .int .i64 y.g, .int .i64 y.k, .int .i64 y.m, .int .i64 y.b, .slice (some ⟨a1, 0, none⟩) i d1, .slice (some ⟨a2, 0, none⟩) i d2, .slice (some ⟨a3, 0, none⟩) i d3] 26) = w9 at *
            obtain ⟨t, ht⟩ : ∃ t, w8.heap.size = t := ⟨_, rfl⟩
            rw [ht] at Y8 ⊢
            clear ht
            have s1 := Y8.a.c1
            go_upto_region 20 with (fail)
            clear s1 tm
            have cN := next_any y us _ _ _ _ w9 (O9.lr (by omega) (by omega) (by omega)) U9.reads (by omega)
            rw [hz1.1, hz1.2] at cN
            generalize nexted y us = z at *
            clear hz1
            have ⟨e0, e1, e2, e3, e4, e5, e6, e7, e8, elt⟩ := Y8.a
            unfold Lbl.v at cN
            go_wp2_with (fail)
            refine cN.mono ?_
            rintro e w10 ⟨xa, xb, xc, rfl, O10, b10⟩
            clear cN e0 e1 e2 e3 e4 e5 e6 e7 e8 elt
            obtain ⟨c1, f1, rfl, _⟩ := O10.a.form (by simp; omega)
            obtain ⟨c2, f2, rfl, _⟩ := O10.b.form (by simp; omega)
            obtain ⟨c3, f3, rfl, _⟩ := O10.c.form (by simp; omega)
            simp only [List.length_map, hzl.1, hzl.2.1, hzl.2.2] at O10 ⊢
            have Z10 : LblBox (w10.alloc (.cells #[.int .i64 z.i, .int .i64 z.s, .int .i64 z.g, .int .i64 z.k, .int .i64 z.m, .int .i64 z.b, .slice (some ⟨c1, 0, none⟩) i f1, .slice (some ⟨c2, 0, none⟩) i f2, .slice (some ⟨c3, 0, none⟩) i f3] 26)) w10.heap.size z (.slice (some ⟨c1, 0, none⟩) i f1) (.slice (some ⟨c2, 0, none⟩) i f2) (.slice (some ⟨c3, 0, none⟩) i f3) := ⟨LblAt.made w10 z (.slice (some ⟨c1, 0, none⟩) i f1) (.slice (some ⟨c2, 0, none⟩) i f2) (.slice (some ⟨c3, 0, none⟩) i f3) 26, fun o => frozen_of_row _ _ _ _ _ (heap_alloc_new _ _)⟩
            have bk := (Below.refl w10.heap.size w10).alloc (Nat.le_refl _) (.cells #[.int .i64 z.i, .int .i64 z.s, .int .i64 z.g, .int .i64 z.k, .int .i64 z.m, .int .i64 z.b, .slice (some ⟨c1, 0, none⟩) i f1, .slice (some ⟨c2, 0, none⟩) i f2, .slice (some ⟨c3, 0, none⟩) i f3] 26)
            simp only [Lbl.v]
            go_upto_region 21 with (fail)
            have bb := b10.trans (bk.mono b10.size)
            have O11 := O10.after bk
            have Q9 := O9.after bb
            have U11 := U9.after bb
            have Y11 := Y8.below bb Y8.a.lt
            have B11 := B9.trans (bb.mono B9.size)
            clear O10 O9 U9 Y8 B9 bb bk b10
            generalize w10.alloc (.cells #[.int .i64 z.i, .int .i64 z.s, .int .i64 z.g, .int .i64 z.k, .int .i64 z.m, .int .i64 z.b, .slice (some ⟨c1, 0, none⟩) i f1, .slice (some ⟨c2, 0, none⟩) i f2, .slice (some ⟨c3, 0, none⟩) i f3] 26) = w11 at *
            obtain ⟨u, hu⟩ : ∃ t, w10.heap.size = t := ⟨_, rfl⟩
            rw [hu] at Z10 ⊢
            clear hu
            have cR := lright_any z _ _ _ w11 (O11.lr (by omega) (by omega) (by omega))
            rw [hzr] at cR
            unfold Lbl.v at cR
            have ⟨e0, e1, e2, e3, e4, e5, e6, e7, e8, elt⟩ := Z10.a
            go_wp2_with (fail)
            refine cR.mono ?_
            rintro e w12 ⟨rfl, b12⟩
            clear cR e0 e1 e2 e3 e4 e5 e6 e7 e8 elt
            have O12 := O11.after b12
            have Q12 := Q9.after b12
            have U12 := U11.after b12
            have Y12 := Y11.below b12 Y11.a.lt
            have Z12 := Z10.below b12 Z10.a.lt
            have B12 := B11.trans (b12.mono B11.size)
            clear O11 Q9 U11 Y11 Z10 B11 b12
            have e2 := Z12.a.c2
            have e6 := Z12.a.c6
            have g2 := Y12.a.c2
            have tg : (z.g == y.g + 1) = true := by rw [hzg.out]; exact beq_self_eq_true _
            go_upto_region 23 with (fail)
            clear e2 e6 g2 tg
            have hs12 := B12.size
            have hcell : Hid (∀ V', Below w12.heap.size w12 V' → ∀ j, j < i → V'.cell? ⟨ug, j, none⟩ = some (.bool (us.getD j true)) ∧ V'.cell? ⟨a1, j, none⟩ = some (.int .i64 (y.st.getD j 0)) ∧ V'.cell? ⟨a2, j, none⟩ = some (.int .i64 (y.bo.getD j 0)) ∧ V'.cell? ⟨a3, j, none⟩ = some (.int .i64 (y.cu.getD j 0)) ∧
                V'.cell? ⟨c1, j, none⟩ = some (.int .i64 (z.st.getD j 0)) ∧ V'.cell? ⟨c2, j, none⟩ = some (.int .i64 (z.bo.getD j 0)) ∧ V'.cell? ⟨c3, j, none⟩ = some (.int .i64 (z.cu.getD j 0))) := Lib.hid fun V' hV j hj => by
              refine ⟨?_, ?_, ?_, ?_, ?_, ?_, ?_⟩
              · rw [(U12.after hV).cell (i := j) (by simp; omega)]; simp [List.getD_eq_getElem?_getD, show j < us.length by omega]
              · rw [(Q12.after hV).a.cell (i := j) (by simp; omega)]; simp [List.getD_eq_getElem?_getD, show j < y.st.length by omega]
              · rw [(Q12.after hV).b.cell (i := j) (by simp; omega)]; simp [List.getD_eq_getElem?_getD, show j < y.bo.length by omega]
              · rw [(Q12.after hV).c.cell (i := j) (by simp; omega)]; simp [List.getD_eq_getElem?_getD, show j < y.cu.length by omega]
              · rw [(O12.after hV).a.cell (i := j) (by simp; omega)]; simp [List.getD_eq_getElem?_getD, show j < z.st.length by omega]
              · rw [(O12.after hV).b.cell (i := j) (by simp; omega)]; simp [List.getD_eq_getElem?_getD, show j < z.bo.length by omega]
              · rw [(O12.after hV).c.cell (i := j) (by simp; omega)]; simp [List.getD_eq_getElem?_getD, show j < z.cu.length by omega]
            clear U12 Q12 O12 hstl hbl2 hcul hzl hul hzg hgl hyr hyg hzr v6
            go_wp2_with (fail)
            go_loopw [18] (fun a V' => ∃ j : Nat, j ≤ i ∧ a = .int .i64 (j : Int) ∧ Below w12.heap.size w12 V') (fun a _ => i - (intOf a).toNat)
            case atStart => exact ⟨0, Nat.zero_le _, rfl, Below.refl _ _⟩
            case round =>
              obtain ⟨j, hj, rfl, hV⟩ := hrel
              rename World => V'
              by_cases hji : j < i
              · have y5 : (j : Int) < (i : Int) := by omega
                have YV := Y12.below hV Y12.a.lt
                have ZV := Z12.below hV Z12.a.lt
                have e6 := ZV.a.c6
                have e7 := ZV.a.c7
                have e8 := ZV.a.c8
                have g6 := YV.a.c6
                have g7 := YV.a.c7
                have g8 := YV.a.c8
                obtain ⟨p0, p1, p2, p3, p4, p5, p6⟩ := hcell.out V' hV j hji
                obtain ⟨m1, m2, m3⟩ := hzs.out j hji
                rw [m1] at p4
                rw [m2] at p5
                rw [m3] at p6
                clear m1 m2 m3 YV ZV
                by_cases hjm : j = m
                · subst hjm
                  rw [hum] at p0
                  simp only [hum, Bool.false_eq_true, if_false] at p4 p6
                  go_wp2_with (fail)
                  go_roundw
                  case rel => exact ⟨j + 1, by omega, by go_num, hV⟩
                  case measure => simp [intOf]; omega
                · have y6 : ((j : Int) == (m : Int)) = false := by rw [beq_eq_false_iff_ne]; omega
                  generalize y.st.getD j 0 = h1 at *
                  generalize y.bo.getD j 0 = h2 at *
                  generalize y.cu.getD j 0 = h3 at *
                  cases huj : us.getD j true
                  all_goals
                    rw [huj] at p0
                    simp only [huj, Bool.false_eq_true, if_false, if_true] at p4 p6
                    clear huj
                    go_wp2_with (fail)
                    go_quiet (fail)
                    have hV3 := below_c hV (drew_below V' nq)
                    go_wp2_with (fail)
                    go_roundw
                    case rel => exact ⟨j + 1, by omega, by go_num, hV3⟩
                    case measure => simp [intOf]; omega
              · have y5 : ¬ ((j : Int) < (i : Int)) := by omega
                go_wp2_with (fail)
                go_ret
                exact ⟨rfl, B12.trans (hV.mono hs12)⟩
end Go.Proofs.YtaopknddpagjeaaDoor
