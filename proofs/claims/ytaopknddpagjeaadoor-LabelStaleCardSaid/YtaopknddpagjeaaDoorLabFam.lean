/- label: label: the family of a raw label. -/
import Derived.Test.YtaopknddpagjeaaDoorLabFit
import Derived.Test.YtaopknddpagjeaaDoorLabCnt
import Derived.Test.YtaopknddpagjeaaDoorLabChoM
import Derived.Test.YtaopknddpagjeaaDoorSk
import Derived.Test.YtaopknddpagjeaaDoorLabArgs
import Derived.BigQuiet
import Derived.Deep.QuietTactic
namespace Go.Proofs.YtaopknddpagjeaaDoor
open Go.RowKit
set_option linter.unusedVariables false
set_option linter.unusedSimpArgs false
open Lb

/-- A value of one cell, else nil. -/
def cell1 (v : Value) : Value := if v.oneCell' = true then v else .slice none 0 0
theorem cell1_one (v : Value) : (cell1 v).oneCell' = true := by
  unfold cell1; split
  · assumption
  · rfl
theorem cell1_slice (a : Option Addr) (n c : Nat) : cell1 (.slice a n c) = .slice a n c := if_pos (show (Value.slice a n c).oneCell' = true from rfl)
theorem cell1_of {w : World} {v : Value} {xs : List Value} (h : Reads w v xs) : cell1 v = v := by
  obtain ⟨a, c, rfl⟩ := h.isSlice
  exact cell1_slice _ _ _
def fdE : Enc Fd where
  k := 10
  f := fun f => [.bool f.has, .int .i64 f.x.i, .int .i64 f.x.s, .int .i64 f.x.g, .int .i64 f.x.k, .int .i64 f.x.m, .int .i64 f.x.b, cell1 f.va, cell1 f.vb, cell1 f.vc]
  pos := by decide
  len := fun _ => rfl
  one := fun a u hu => by
    simp only [List.mem_cons, List.not_mem_nil, or_false] at hu
    rcases hu with rfl | rfl | rfl | rfl | rfl | rfl | rfl | rfl | rfl | rfl
    · rfl
    · rfl
    · rfl
    · rfl
    · rfl
    · rfl
    · rfl
    · exact cell1_one _
    · exact cell1_one _
    · exact cell1_one _
theorem FReads.of {w : World} {v : Value} {l : List Fd} (h : ReadsE fdE w v l) (hL : ∀ f ∈ l, LR w f.x f.va f.vb f.vc) : FReads w v l := by
  obtain ⟨a, cap, e, g⟩ := h.items
  refine ⟨a, cap, e, fun i hi => ?_⟩
  obtain ⟨b, o, e1, lt, c⟩ := g i hi
  have hl := hL l[i] (List.getElem_mem hi)
  refine ⟨b, o, e1, ?_, hl⟩
  have q : ∀ j, j < 10 → w.cell? ⟨b, o + i * 10 + j, none⟩ = (fdE.f l[i])[j]? := fun j hj => by
    have := c j hj
    rw [← Nat.add_assoc] at this
    exact this
  exact ⟨q 0 (by decide), q 1 (by decide), q 2 (by decide), q 3 (by decide), q 4 (by decide), q 5 (by decide), q 6 (by decide),
    by rw [q 7 (by decide)]; exact congrArg some (cell1_of hl.s), by rw [q 8 (by decide)]; exact congrArg some (cell1_of hl.b), by rw [q 9 (by decide)]; exact congrArg some (cell1_of hl.c), lt⟩
/-- The blocks of what was found. -/
def vals3 (f : Fd) : List Value := [f.va, f.vb, f.vc]
/-- What was found, all of it the call's own. -/
structure Fam (w : World) (B : Nat) (v : Value) (l : List Fd) : Prop where
  o : OwnE fdE w B 45 v l
  s : ∀ f ∈ l, Own w B 3 f.va (f.x.st.map (.int .i64))
  b : ∀ f ∈ l, Own w B 3 f.vb (f.x.bo.map (.int .i64))
  c : ∀ f ∈ l, Own w B 3 f.vc (f.x.cu.map (.int .i64))
  p : (l.flatMap vals3).Pairwise Apart
  q : ∀ u ∈ l.flatMap vals3, Apart u v
theorem Fam.nil (w : World) (B : Nat) : Fam w B (.slice none 0 0) [] := ⟨OwnE.nil _ _ _ _, fun _ h => (by cases h), fun _ h => (by cases h), fun _ h => (by cases h), List.Pairwise.nil, fun _ h => (by cases h)⟩
theorem Fam.lr {w : World} {B : Nat} {v : Value} {l : List Fd} (h : Fam w B v l) (hl : ∀ f ∈ l, f.x.st.length ≤ 140737488355328 ∧ f.x.bo.length ≤ 140737488355328 ∧ f.x.cu.length ≤ 140737488355328) : ∀ f ∈ l, LR w f.x f.va f.vb f.vc :=
  fun f hf => ⟨(h.s f hf).reads, (h.b f hf).reads, (h.c f hf).reads, (hl f hf).1, (hl f hf).2.1, (hl f hf).2.2⟩
theorem Fam.reads {w : World} {B : Nat} {v : Value} {l : List Fd} (h : Fam w B v l) (hl : ∀ f ∈ l, f.x.st.length ≤ 140737488355328 ∧ f.x.bo.length ≤ 140737488355328 ∧ f.x.cu.length ≤ 140737488355328) : FReads w v l := FReads.of h.o.reads (h.lr hl)
theorem Fam.after {w w' : World} {B : Nat} {v : Value} {l : List Fd} (h : Fam w B v l) (hb : Below w.heap.size w w') : Fam w' B v l :=
  ⟨h.o.after hb, fun f hf => (h.s f hf).after hb, fun f hf => (h.b f hf).after hb, fun f hf => (h.c f hf).after hb, h.p, h.q⟩
theorem Fam.mono {w : World} {B B' : Nat} {v : Value} {l : List Fd} (h : Fam w B v l) (hB : B' ≤ B) : Fam w B' v l :=
  ⟨h.o.mono hB, fun f hf => (h.s f hf).mono hB, fun f hf => (h.b f hf).mono hB, fun f hf => (h.c f hf).mono hB, h.p, h.q⟩
/-- What one owns stands in blocks that are there. -/
theorem Fam.old {w : World} {B : Nat} {v : Value} {l : List Fd} (h : Fam w B v l) : ∀ u ∈ v :: l.flatMap vals3, ∀ k, u.ownBlock = some k → B ≤ k ∧ k < w.heap.size := by
  intro u hu k hk
  rcases List.mem_cons.1 hu with rfl | hu
  · exact h.o.lt k hk
  · obtain ⟨f, hf, hu⟩ := List.mem_flatMap.1 hu
    simp only [vals3, List.mem_cons, List.not_mem_nil, or_false] at hu
    rcases hu with rfl | rfl | rfl
    · exact (h.s f hf).o.lt k hk
    · exact (h.b f hf).o.lt k hk
    · exact (h.c f hf).o.lt k hk
/-- One more, whose slices are new. -/
theorem Fam.push {w w1 w2 : World} {B C : Nat} {v v' : Value} {l : List Fd} {f : Fd} (h : Fam w B v l) (hC : w.heap.size ≤ C) (hf : O3 w1 C f.x f.va f.vb f.vc) (hb : Below w.heap.size w w1) (ho : OwnE fdE w2 B 45 v' (l ++ [f]))
    (hk : KeptBut v w1 w2) (hv : v'.ownBlock = v.ownBlock ∨ v'.ownBlock = some (w1.heap.size + 1)) (hBC : B ≤ w.heap.size) : Fam w2 B v' (l ++ [f]) := by
  have hw := hb.size
  have hold := h.old
  have new : ∀ u ∈ vals3 f, ∀ k, u.ownBlock = some k → C ≤ k ∧ k < w1.heap.size := by
    intro u hu k hk
    simp only [vals3, List.mem_cons, List.not_mem_nil, or_false] at hu
    rcases hu with rfl | rfl | rfl
    · exact hf.a.o.lt k hk
    · exact hf.b.o.lt k hk
    · exact hf.c.o.lt k hk
  have oldv : ∀ u ∈ l.flatMap vals3, Apart u v := h.q
  have newv : ∀ u ∈ vals3 f, Apart u v := fun u hu k h1 h2 => by
    have := (new u hu k h1).1
    have := (hold v (List.mem_cons_self ..) k h2).2
    omega
  have m1 := h.after hb
  have one : ∀ {u : Value} {xs : List Value} {D : Nat}, Own w1 D 3 u xs → Apart u v → B ≤ D → Own w2 B 3 u xs := fun ho ha hD => (ho.kept hk ha).mono hD
  refine ⟨ho, fun g hg => ?_, fun g hg => ?_, fun g hg => ?_, ?_, fun u hu k h1 h2 => ?_⟩
  · rcases List.mem_append.1 hg with hg | hg
    · exact one (m1.s g hg) (oldv _ (List.mem_flatMap.2 ⟨g, hg, by simp [vals3]⟩)) (Nat.le_refl _)
    · obtain rfl : g = f := by simpa using hg
      exact one hf.a (newv _ (by simp [vals3])) (by omega)
  · rcases List.mem_append.1 hg with hg | hg
    · exact one (m1.b g hg) (oldv _ (List.mem_flatMap.2 ⟨g, hg, by simp [vals3]⟩)) (Nat.le_refl _)
    · obtain rfl : g = f := by simpa using hg
      exact one hf.b (newv _ (by simp [vals3])) (by omega)
  · rcases List.mem_append.1 hg with hg | hg
    · exact one (m1.c g hg) (oldv _ (List.mem_flatMap.2 ⟨g, hg, by simp [vals3]⟩)) (Nat.le_refl _)
    · obtain rfl : g = f := by simpa using hg
      exact one hf.c (newv _ (by simp [vals3])) (by omega)
  · rw [List.flatMap_append, List.pairwise_append]
    refine ⟨h.p, ?_, fun u hu t ht k h1 h2 => ?_⟩
    · simp only [List.flatMap_cons, List.flatMap_nil, List.append_nil, vals3]
      refine List.Pairwise.cons ?_ (List.Pairwise.cons ?_ (List.Pairwise.cons (fun _ h => by cases h) List.Pairwise.nil))
      · intro u hu
        simp only [List.mem_cons, List.not_mem_nil, or_false] at hu
        rcases hu with rfl | rfl
        · exact hf.ab
        · exact hf.ac
      · intro u hu
        simp only [List.mem_cons, List.not_mem_nil, or_false] at hu
        obtain rfl := hu
        exact hf.bc
    · have := (hold u (List.mem_cons_of_mem _ hu) k h1).2
      have := (new t (by simpa [List.flatMap_cons] using ht) k h2).1
      omega
  · have lt : k < w1.heap.size := by
      rw [List.flatMap_append, List.mem_append] at hu
      rcases hu with hu | hu
      · have := (hold u (List.mem_cons_of_mem _ hu) k h1).2; omega
      · exact (new u (by simpa [List.flatMap_cons] using hu) k h1).2
    rcases hv with hv | hv
    · rw [hv] at h2
      rw [List.flatMap_append, List.mem_append] at hu
      rcases hu with hu | hu
      · exact oldv u hu k h1 h2
      · exact newv u (by simpa [List.flatMap_cons] using hu) k h1 h2
    · rw [hv] at h2
      have := Option.some.inj h2
      omega
/-- The greatest of some numbers and one. -/
def mx (g : Int) (l : List Int) : Int := l.foldl max g
theorem mx_take (g : Int) (l : List Int) (k : Nat) (h : k < l.length) : mx g (l.take (k + 1)) = max (mx g (l.take k)) (l.getD k 0) := by
  unfold mx
  rw [List.take_succ_eq_append_getElem h, List.foldl_append, List.getD_eq_getElem?_getD, List.getElem?_eq_getElem h]; rfl
theorem mx_all (g : Int) (l : List Int) : mx g (l.take l.length) = mx g l := by rw [List.take_length]
theorem mx_ge (g : Int) : ∀ l : List Int, g ≤ mx g l ∧ ∀ n ∈ l, n ≤ mx g l := by
  intro l
  induction l generalizing g with
  | nil => exact ⟨Int.le_refl _, fun _ h => by cases h⟩
  | cons a l ih =>
    have h := ih (max g a)
    show g ≤ mx (max g a) l ∧ ∀ n ∈ a :: l, n ≤ mx (max g a) l
    refine ⟨by omega, fun n hn => ?_⟩
    rcases List.mem_cons.1 hn with rfl | hn
    · omega
    · exact h.2 n hn
theorem mx_le (g m : Int) (hg : g ≤ m) : ∀ l : List Int, (∀ n ∈ l, n ≤ m) → mx g l ≤ m := by
  intro l
  induction l generalizing g with
  | nil => intro _; exact hg
  | cons a l ih => intro h; exact ih (max g a) (by have := h a (List.mem_cons_self ..); omega) fun n hn => h n (List.mem_cons_of_mem _ hn)
/-- The generation that a slot's label has. -/
def famG (x : Lbl) (gens : List Int) (i : Nat) : Int := mx (max 1 (x.g - atN gens i 3)) x.bo
def famX (x : Lbl) (gens : List Int) (i : Nat) : Lbl := { x with s := (i : Int), g := famG x gens i }
open Go.RowKit
set_option linter.unusedVariables false
set_option linter.unusedSimpArgs false
open Lb

theorem fd_sizes : ∃ i, Tryd.prog.info? 45 = some i ∧ i.zero = some (.agg #[.bool false, .int .i64 0, .int .i64 0, .int .i64 0, .int .i64 0, .int .i64 0, .int .i64 0, .slice none 0 0, .slice none 0 0, .slice none 0 0]) ∧ i.size = 10 ∧ i.bytes = 128 := by
  exact info_parts (by kernel_rfl)
/-- The family of a right label is right, and not younger. -/
theorem famX_ok {x : Lbl} (h : rightB x = true) (gens : List Int) {i : Nat} (hi : i < x.st.length) : rightB (famX x gens i) = true ∧ 1 ≤ (famX x gens i).g ∧ (famX x gens i).g ≤ x.g := by
  have r := (right_iff x).1 h
  have hn := r.st
  have hg := r.g
  have a3 := atN_rng gens i 3 (by omega)
  have g1 : max 1 (x.g - atN gens i 3) ≤ x.g := by omega
  have lo := (mx_ge (max 1 (x.g - atN gens i 3)) x.bo)
  have hi' := mx_le (max 1 (x.g - atN gens i 3)) x.g g1 x.bo fun n hn => (r.bos n hn).2
  refine ⟨(right_iff _).2 ⟨r.i, ?_, ?_, r.st, r.bo, r.cu, r.sts, ?_, r.cus⟩, ?_, hi'⟩
  · show 0 ≤ (i : Int) ∧ (i : Int) < nS x; omega
  · show 1 ≤ mx _ _ ∧ mx _ _ ≤ _; omega
  · intro n hn; exact ⟨(r.bos n hn).1, lo.2 n hn⟩
  · show 1 ≤ mx _ _; omega
def famXs (x : Lbl) (gens : List Int) (k : Nat) : List Lbl := (List.range k).map (famX x gens)
def GivesFam (w : World) (x : Lbl) (gens : List Int) (e : Ending) (w' : World) : Prop :=
  ∃ v l, e = .returned (.tuple #[.int .i64 x.i, v]) ∧ l.map Fd.x = famXs x gens x.st.length ∧ (∀ f ∈ l, f.has = true) ∧ Fam w' w.heap.size v l ∧ Below w.heap.size w w'
set_option maxRecDepth 100000 in
set_option maxHeartbeats 4000000 in
theorem family_any (r : Lbl) (vs vb vc : Value) (gens : List Int) (v : Value) (w : World) (hx : LR w r vs vb vc) (hn : NumsOk r) (hl : Reads w v (gens.map (.int .i64))) (hl1 : ∀ n ∈ gens, -9223372036854775808 ≤ n ∧ n ≤ 9223372036854775807) (hl2 : gens.length ≤ 140737488355328) :
    Calls Tryd.prog 26 #[r.v vs vb vc, v] w (GivesFam w (fitL r) gens) := by
  have A0 := LblAt.made w r vs vb vc 36
  have B0 : Below w.heap.size w (w.alloc (.cells #[.int .i64 r.i, .int .i64 r.s, .int .i64 r.g, .int .i64 r.k, .int .i64 r.m, .int .i64 r.b, vs, vb, vc] 36)) := (Below.refl _ _).alloc (Nat.le_refl _) _
  have cF := fun W (h : LR W r vs vb vc) => fit10_any r vs vb vc W h hn.i hn.s hn.g hn.k hn.m hn.b hn.st hn.bo hn.cu
  replace cF := Lib.hid cF
  clear hn
  unfold Lbl.v
  go_enter Tryd.func26, Tryd.ntmps26
  go_upto_region 1 with (fail)
  have L0 := hx.below B0
  clear hx
  generalize w.alloc (.cells #[.int .i64 r.i, .int .i64 r.s, .int .i64 r.g, .int .i64 r.k, .int .i64 r.m, .int .i64 r.b, vs, vb, vc] 36) = w0 at *
  obtain ⟨p, hp⟩ : ∃ p, w.heap.size = p := ⟨_, rfl⟩
  rw [hp] at A0 ⊢
  replace hp := Lib.hid hp
  have cR := cF.out w0 L0
  clear cF L0
  unfold Lbl.v at cR
  have hsp : p < w0.heap.size := A0.lt
  have ⟨e0, e1, e2, e3, e4, e5, e6, e7, e8, elt⟩ := A0
  go_wp2_with (fail)
  refine cR.mono ?_
  rintro e w2 ⟨va, vb', vc', rfl, O2, b2⟩
  clear e0 e1 e2 e3 e4 e5 e6 e7 e8 elt cR A0
  have hfo := fit_ok r
  have hN1 : (fitL r).st.length = fN r := (fitTo_len r (fN r)).1
  have hN2 : (fitL r).bo.length = fN r := (fitTo_len r (fN r)).2.1
  have hN3 : (fitL r).cu.length = fN r := (fitTo_len r (fN r)).2.2
  have hfn := fN_rng r
  obtain ⟨N, hN⟩ : ∃ N, fN r = N := ⟨_, rfl⟩
  rw [hN] at hN1 hN2 hN3 hfn
  generalize fitL r = x at *
  replace hfn := hfn.2
  clear hN
  obtain ⟨a1, d1, ev⟩ := O2.a.reads.isSlice
  rw [List.length_map, hN1] at ev
  subst ev
  obtain ⟨a2, d2, ev⟩ := O2.b.reads.isSlice
  rw [List.length_map, hN2] at ev
  subst ev
  obtain ⟨a3, d3, ev⟩ := O2.c.reads.isSlice
  rw [List.length_map, hN3] at ev
  subst ev
  have L2 := O2.lr (by omega) (by omega) (by omega)
  have B2 := below_c B0 b2
  clear B0 b2 O2
  have bk : Below w2.heap.size w2 (w2.alloc (.cells #[.int .i64 x.i, .int .i64 x.s, .int .i64 x.g, .int .i64 x.k, .int .i64 x.m, .int .i64 x.b, .slice a1 N d1, .slice a2 N d2, .slice a3 N d3] 26)) := (Below.refl _ _).alloc (Nat.le_refl _) _
  have Xq : LblBox (w2.alloc (.cells #[.int .i64 x.i, .int .i64 x.s, .int .i64 x.g, .int .i64 x.k, .int .i64 x.m, .int .i64 x.b, .slice a1 N d1, .slice a2 N d2, .slice a3 N d3] 26)) w2.heap.size x (.slice a1 N d1) (.slice a2 N d2) (.slice a3 N d3) := ⟨LblAt.made w2 x (.slice a1 N d1) (.slice a2 N d2) (.slice a3 N d3) 26, fun o => frozen_of_row _ _ _ _ _ (heap_alloc_new _ _)⟩
  simp only [Lbl.v]
  go_upto_region 2 with (fail)
  have L3 := L2.below bk
  have B3 := below_c B2 bk
  clear L2 B2 bk
  generalize w2.alloc (.cells #[.int .i64 x.i, .int .i64 x.s, .int .i64 x.g, .int .i64 x.k, .int .i64 x.m, .int .i64 x.b, .slice a1 N d1, .slice a2 N d2, .slice a3 N d3] 26) = w3 at *
  obtain ⟨s, hs⟩ : ∃ q, w2.heap.size = q := ⟨_, rfl⟩
  rw [hs] at Xq ⊢
  clear hs
  have rx := Lib.hid ((right_iff x).1 hfo)
  have hsl := Xq.a.lt
  have hws : w.heap.size ≤ w3.heap.size := B3.size
  have hfam := Fam.nil w3 w3.heap.size
  go_wp2_with (fail)
  go_loopw [7, 8] (fun o i wr => ∃ (k : Nat) (l : List Fd), k ≤ N ∧ i = .int .i64 (k : Int) ∧ Fam wr w3.heap.size o l ∧ l.map Fd.x = famXs x gens k ∧ (∀ f ∈ l, f.has = true) ∧ Below w3.heap.size w3 wr) (fun _ i _ => N - (intOf i).toNat)
  case atStart => exact ⟨0, [], Nat.zero_le _, rfl, hfam, rfl, (fun _ h => by cases h), Below.refl _ _⟩
  case round =>
    obtain ⟨k, l, hk, rfl, hF, hx, hh, hB⟩ := hrel
    rename World => wr
    have XB := Xq.below hB hsl
    have Lr := L3.below hB
    have Bw := below_c B3 hB
    have hwr := hB.size
    by_cases hlt : k < N
    · have y5 : (k : Int) < (N : Int) := by omega
      have Y1 : LblBox (wr.alloc (.cells #[.int .i64 x.i, .int .i64 x.s, .int .i64 x.g, .int .i64 x.k, .int .i64 x.m, .int .i64 x.b, .slice a1 N d1, .slice a2 N d2, .slice a3 N d3] 26)) wr.heap.size x (.slice a1 N d1) (.slice a2 N d2) (.slice a3 N d3) := ⟨LblAt.made wr x (.slice a1 N d1) (.slice a2 N d2) (.slice a3 N d3) 26, fun o => frozen_of_row _ _ _ _ _ (heap_alloc_new _ _)⟩
      have bk : Below wr.heap.size wr (wr.alloc (.cells #[.int .i64 x.i, .int .i64 x.s, .int .i64 x.g, .int .i64 x.k, .int .i64 x.m, .int .i64 x.b, .slice a1 N d1, .slice a2 N d2, .slice a3 N d3] 26)) := (Below.refl _ _).alloc (Nat.le_refl _) _
      have ⟨e0, e1, e2, e3, e4, e5, e6, e7, e8, elt⟩ := XB.a
      go_upto_region 7 with (fail)
      clear e0 e1 e2 e3 e4 e5 e6 e7 e8 elt
      generalize wr.alloc (.cells #[.int .i64 x.i, .int .i64 x.s, .int .i64 x.g, .int .i64 x.k, .int .i64 x.m, .int .i64 x.b, .slice a1 N d1, .slice a2 N d2, .slice a3 N d3] 26) = w4 at *
      obtain ⟨q, hq⟩ : ∃ q, wr.heap.size = q := ⟨_, rfl⟩
      rw [hq] at Y1 ⊢
      have c1 := Y1.a.c1
      have f1 := Y1.f 1
      go_upto_region 8 with (fail)
      clear c1 f1
      have Y2 := Y1.num1 (k : Int)
      have b5 : Below wr.heap.size wr (w4.setCell ⟨q, 1, none⟩ (.int .i64 (k : Int))) := bk.setCell (p := ⟨q, 1, none⟩) (by show wr.heap.size ≤ q; omega) _
      clear bk Y1
      generalize w4.setCell ⟨q, 1, none⟩ (.int .i64 (k : Int)) = w5 at *
      have X5 := XB.below b5 XB.a.lt
      have c2 := X5.a.c2
      have g2 := Y2.a.c2
      have f2 := Y2.f 2
      have cA : ∀ W, Below wr.heap.size wr W → Calls Tryd.prog 52 #[v, .int .i64 (k : Int), .int .i64 3] W fun e w' => e = .returned (.int .i64 (atN gens k 3)) ∧ W = w' := fun W h => at_any v gens k 3 W (hl.below (below_c Bw h)) hl1 hl2 (by omega) (by omega) (by omega)
      have hA3 := atN_rng gens k 3 (by omega)
      have hxg := rx.out.g
      have v1 : IntKind.i64.wrap (x.g - atN gens k 3) = x.g - atN gens k 3 := IntWalk.i64_in _ (by omega)
      have bd : Below wr.heap.size wr w5.drew := b5.drew
      have Y3 : ∀ W : World, W.heap = (w5.setCell ⟨q, 2, none⟩ (.int .i64 (max 1 (x.g - atN gens k 3)))).heap → Below wr.heap.size wr W → LblBox W q { x with s := (k : Int), g := max 1 (x.g - atN gens k 3) } (.slice a1 N d1) (.slice a2 N d2) (.slice a3 N d3) ∧ Below wr.heap.size wr W := fun W hW hb => by
        have h1 := Y2.num2 (max 1 (x.g - atN gens k 3))
        exact ⟨h1.heap (by rw [hW]) (by rw [hW]; exact Nat.le_refl _), hb⟩
      replace Y3 := Lib.hid Y3
      go_upto_region 8 with (fail)
      go_cut [] from 23 to 30 (fun wx => LblBox wx q { x with s := (k : Int), g := max 1 (x.g - atN gens k 3) } (.slice a1 N d1) (.slice a2 N d2) (.slice a3 N d3) ∧ Below wr.heap.size wr wx)
      case first =>
        go_region_with (go_at_call 52; refine (cA _ (by first | assumption | exact b5.drew)).mono ?_; rintro e w' ⟨rfl, rfl⟩)
        all_goals (go_wp2_with (fail); go_meet; exact Y3.out _ rfl (by first | exact (b5.setCell (p := ⟨q, 2, none⟩) (Nat.le_of_eq hq) _).drew | exact b5.drew.setCell (p := ⟨q, 2, none⟩) (Nat.le_of_eq hq) _ | exact (b5.drew.setCell (p := ⟨q, 2, none⟩) (Nat.le_of_eq hq) _).drew))
      case rest =>
        obtain ⟨Y4, b6⟩ := hcut
        clear Y2 b5 X5 c2 f2 cA v1 bd Y3 g2
        have L6 := Lr.below b6
        obtain ⟨na, nc, nv, hnu⟩ := Lr.b.nums
        have hna : a2 = na ∧ d2 = nc := by simp at nv; exact ⟨nv.1, nv.2.2⟩
        rw [← hna.1] at hnu
        clear nv hna
        have hbox := XB.below b6 XB.a.lt
        replace hnu := Lib.hid hnu
        have hqs : q ≠ s := by have := XB.a.lt; omega
        go_wp2_with (fail)
        go_loopw [10] (fun t W => ∃ m : Nat, m ≤ N ∧ t = .int .i64 (m : Int) ∧ LblBox W q { x with s := (k : Int), g := mx (max 1 (x.g - atN gens k 3)) (x.bo.take m) } (.slice a1 N d1) (.slice a2 N d2) (.slice a3 N d3) ∧ Below wr.heap.size wr W) (fun t _ => N - (intOf t).toNat)
        case atStart => exact ⟨0, Nat.zero_le _, rfl, Y4, b6⟩
        case round =>
          obtain ⟨m, hm, rfl, hY, hb⟩ := hrel
          rename World => W
          have XW := XB.below hb XB.a.lt
          have c7 := XW.a.c7
          by_cases hml : m < N
          · have y6 : (m : Int) < (N : Int) := by omega
            obtain ⟨cb, co, rfl, hcb, hcc⟩ := hnu.out m (by omega)
            have cB : W.cell? ⟨cb, co + m, none⟩ = some (.int .i64 (x.bo.getD m 0)) := by rw [hb.cell (p := ⟨cb, co + m, none⟩) hcb]; exact hcc
            have hmx := mx_take (max 1 (x.g - atN gens k 3)) x.bo m (by omega)
            obtain ⟨bm, hbm⟩ : ∃ z, x.bo.getD m 0 = z := ⟨_, rfl⟩
            rw [hbm] at hmx cB
            replace hmx := Lib.hid hmx
            clear hcc hbm
            obtain ⟨am, ham⟩ : ∃ z, mx (max 1 (x.g - atN gens k 3)) (x.bo.take m) = z := ⟨_, rfl⟩
            rw [ham] at hY hmx
            clear ham
            have c2 := hY.a.c2
            have f2 := hY.f 2
            simp only at c2
            have Y5 : ∀ V : World, V.heap = (W.setCell ⟨q, 2, none⟩ (.int .i64 (max am bm))).heap → Below wr.heap.size wr V → LblBox V q { x with s := (k : Int), g := max am bm } (.slice a1 N d1) (.slice (some ⟨cb, co, none⟩) N d2) (.slice a3 N d3) ∧ Below wr.heap.size wr V := fun V hV hv =>
              ⟨(hY.num2 (max am bm)).heap (by rw [hV]) (by rw [hV]; exact Nat.le_refl _), hv⟩
            replace Y5 := Lib.hid Y5
            go_upto_region 12 with (fail)
            go_region_with (fail)
            all_goals
              go_wp2_with (fail)
              go_roundw
              case rel =>
                refine ⟨m + 1, by omega, by go_num, ?_⟩
                rw [hmx.out]
                refine Y5.out _ rfl ?_
                first | exact (hb.setCell (p := ⟨q, 2, none⟩) (Nat.le_of_eq hq) _).drew | exact hb.drew.setCell (p := ⟨q, 2, none⟩) (Nat.le_of_eq hq) _ | exact (hb.drew.setCell (p := ⟨q, 2, none⟩) (Nat.le_of_eq hq) _).drew
              case measure => simp [intOf]; omega
          · obtain rfl : m = N := by omega
            have y6 : ¬ ((m : Int) < (m : Int)) := by omega
            have hfx : Hid ({ x with s := (k : Int), g := mx (max 1 (x.g - atN gens k 3)) (x.bo.take m) } = famX x gens k) := Lib.hid (by unfold famX famG; rw [← hN2, mx_all])
            rw [hfx.out] at hY
            obtain ⟨y, hy⟩ : ∃ y, famX x gens k = y := ⟨_, rfl⟩
            have hys : Hid (y.st = x.st ∧ y.bo = x.bo ∧ y.cu = x.cu) := Lib.hid (by rw [← hy]; exact ⟨rfl, rfl, rfl⟩)
            rw [hy] at hY
            replace hy := Lib.hid hy
            clear hfx b6 L6 hnu hbox hml
            have hqW : q < W.heap.size := hY.a.lt
            have hsW : s < wr.heap.size := XB.a.lt
            obtain ⟨ib, hi, hz0, hz1, hzb⟩ := info_parts Tryd.infoI
            clear XW L3 Xq
            have XW1 := XB.below hb hsW
            have LW1 := Lr.below hb
            obtain ⟨u1, wa1, hap1, o1, ba1, _⟩ := Own.pushAll (P := Tryd.prog) (T := 24) Tryd.underlying24 hi hz0 hz1 hzb rfl (Own.nil W W.heap.size 3) LW1.s (fun u hu => by obtain ⟨b, _, rfl⟩ := List.mem_map.1 hu; rfl) (Nat.le_refl _) (by simp; omega) (by simp; omega)
            rw [List.nil_append] at o1
            obtain ⟨g1, k1, rfl, hg1, hgg1⟩ := o1.form (by simp; omega)
            rw [List.length_map, hN1] at hap1 o1
            have YA1 := hY.below ba1 hY.a.lt
            have cs1 := XW1.a.c6
            have cq1 := YA1.a.c6
            have fq1 := YA1.f 6
            have sz1 := ba1.size
            have hqs1 : q < W.heap.size := hY.a.lt
            go_upto_region 14 with (at_builtin; refine wpList_append_run hap1 _ _ rfl rfl rfl rfl rfl ?_)
            clear hap1 cs1 cq1 fq1 XW1 LW1
            have Y1 : LblBox (wa1.setCell ⟨q, 6, none⟩ (.slice (some ⟨g1, 0, none⟩) m k1)) q y (.slice (some ⟨g1, 0, none⟩) m k1) (.slice a2 m d2) (.slice a3 m d3) := by
              have := YA1.row6 x.st (.slice (some ⟨g1, 0, none⟩) m k1)
              rw [← hys.out.1] at this
              exact this
            have B1 : Below wr.heap.size wr (wa1.setCell ⟨q, 6, none⟩ (.slice (some ⟨g1, 0, none⟩) m k1)) := (hb.trans (ba1.mono hb.size)).setCell (p := ⟨q, 6, none⟩) (Nat.le_of_eq hq) _
            replace o1 := o1.setOther (a := ⟨q, 6, none⟩) (by simp [Value.ownBlock]; omega) (.slice (some ⟨g1, 0, none⟩) m k1)
            have szc1 : wa1.heap.size = (wa1.setCell ⟨q, 6, none⟩ (.slice (some ⟨g1, 0, none⟩) m k1)).heap.size := by simp
            rw [szc1] at hgg1 sz1
            clear YA1 szc1 ba1 hY
            generalize wa1.setCell ⟨q, 6, none⟩ (.slice (some ⟨g1, 0, none⟩) m k1) = wb1 at *
            have XW2 := XB.below B1 hsW
            have LW2 := Lr.below B1
            obtain ⟨u2, wa2, hap2, o2, ba2, _⟩ := Own.pushAll (P := Tryd.prog) (T := 24) Tryd.underlying24 hi hz0 hz1 hzb rfl (Own.nil wb1 wb1.heap.size 3) LW2.b (fun u hu => by obtain ⟨b, _, rfl⟩ := List.mem_map.1 hu; rfl) (Nat.le_refl _) (by simp; omega) (by simp; omega)
            rw [List.nil_append] at o2
            obtain ⟨g2, k2, rfl, hg2, hgg2⟩ := o2.form (by simp; omega)
            rw [List.length_map, hN2] at hap2 o2
            have YA2 := Y1.below ba2 Y1.a.lt
            have cs2 := XW2.a.c7
            have cq2 := YA2.a.c7
            have fq2 := YA2.f 7
            have sz2 := ba2.size
            have hqs2 : q < wb1.heap.size := Y1.a.lt
            go_upto_region 15 with (at_builtin; refine wpList_append_run hap2 _ _ rfl rfl rfl rfl rfl ?_)
            clear hap2 cs2 cq2 fq2 XW2 LW2
            have Y2 : LblBox (wa2.setCell ⟨q, 7, none⟩ (.slice (some ⟨g2, 0, none⟩) m k2)) q y (.slice (some ⟨g1, 0, none⟩) m k1) (.slice (some ⟨g2, 0, none⟩) m k2) (.slice a3 m d3) := by
              have := YA2.row7 x.bo (.slice (some ⟨g2, 0, none⟩) m k2)
              rw [← hys.out.2.1] at this
              exact this
            have B2 : Below wr.heap.size wr (wa2.setCell ⟨q, 7, none⟩ (.slice (some ⟨g2, 0, none⟩) m k2)) := (B1.trans (ba2.mono B1.size)).setCell (p := ⟨q, 7, none⟩) (Nat.le_of_eq hq) _
            replace o2 := o2.setOther (a := ⟨q, 7, none⟩) (by simp [Value.ownBlock]; omega) (.slice (some ⟨g2, 0, none⟩) m k2)
            replace o1 := (o1.after ba2).setOther (a := ⟨q, 7, none⟩) (by simp [Value.ownBlock]; omega) (.slice (some ⟨g2, 0, none⟩) m k2)
            have szc2 : wa2.heap.size = (wa2.setCell ⟨q, 7, none⟩ (.slice (some ⟨g2, 0, none⟩) m k2)).heap.size := by simp
            rw [szc2] at hgg2 sz2
            clear YA2 szc2 ba2 Y1
            generalize wa2.setCell ⟨q, 7, none⟩ (.slice (some ⟨g2, 0, none⟩) m k2) = wb2 at *
            have XW3 := XB.below B2 hsW
            have LW3 := Lr.below B2
            obtain ⟨u3, wa3, hap3, o3, ba3, _⟩ := Own.pushAll (P := Tryd.prog) (T := 24) Tryd.underlying24 hi hz0 hz1 hzb rfl (Own.nil wb2 wb2.heap.size 3) LW3.c (fun u hu => by obtain ⟨b, _, rfl⟩ := List.mem_map.1 hu; rfl) (Nat.le_refl _) (by simp; omega) (by simp; omega)
            rw [List.nil_append] at o3
            obtain ⟨g3, k3, rfl, hg3, hgg3⟩ := o3.form (by simp; omega)
            rw [List.length_map, hN3] at hap3 o3
            have YA3 := Y2.below ba3 Y2.a.lt
            have cs3 := XW3.a.c8
            have cq3 := YA3.a.c8
            have fq3 := YA3.f 8
            have sz3 := ba3.size
            have hqs3 : q < wb2.heap.size := Y2.a.lt
            go_upto_region 16 with (at_builtin; refine wpList_append_run hap3 _ _ rfl rfl rfl rfl rfl ?_)
            clear hap3 cs3 cq3 fq3 XW3 LW3
            have Y3 : LblBox (wa3.setCell ⟨q, 8, none⟩ (.slice (some ⟨g3, 0, none⟩) m k3)) q y (.slice (some ⟨g1, 0, none⟩) m k1) (.slice (some ⟨g2, 0, none⟩) m k2) (.slice (some ⟨g3, 0, none⟩) m k3) := by
              have := YA3.row8 x.cu (.slice (some ⟨g3, 0, none⟩) m k3)
              rw [← hys.out.2.2] at this
              exact this
            have B3 : Below wr.heap.size wr (wa3.setCell ⟨q, 8, none⟩ (.slice (some ⟨g3, 0, none⟩) m k3)) := (B2.trans (ba3.mono B2.size)).setCell (p := ⟨q, 8, none⟩) (Nat.le_of_eq hq) _
            replace o3 := o3.setOther (a := ⟨q, 8, none⟩) (by simp [Value.ownBlock]; omega) (.slice (some ⟨g3, 0, none⟩) m k3)
            replace o1 := (o1.after ba3).setOther (a := ⟨q, 8, none⟩) (by simp [Value.ownBlock]; omega) (.slice (some ⟨g3, 0, none⟩) m k3)
            replace o2 := (o2.after ba3).setOther (a := ⟨q, 8, none⟩) (by simp [Value.ownBlock]; omega) (.slice (some ⟨g3, 0, none⟩) m k3)
            have szc3 : wa3.heap.size = (wa3.setCell ⟨q, 8, none⟩ (.slice (some ⟨g3, 0, none⟩) m k3)).heap.size := by simp
            rw [szc3] at hgg3 sz3
            clear YA3 szc3 ba3 Y2
            generalize wa3.setCell ⟨q, 8, none⟩ (.slice (some ⟨g3, 0, none⟩) m k3) = wb3 at *
            have hF3 := hF.after B3
            obtain ⟨fi, fh, fz0, fz1, fzb⟩ := fd_sizes
            have hll : l.length = k := by have := congrArg List.length hx; simpa [famXs] using this
            obtain ⟨v', w', hap, hO, hB4, hK4, hv4⟩ := OwnE.push (P := Tryd.prog) (S := 42) Tryd.underlying42 fh fz0 fz1 fzb rfl hF3.o (⟨true, y, .slice (some ⟨g1, 0, none⟩) m k1, .slice (some ⟨g2, 0, none⟩) m k2, .slice (some ⟨g3, 0, none⟩) m k3⟩ : Fd) #[.bool true, .int .i64 y.i, .int .i64 y.s, .int .i64 y.g, .int .i64 y.k, .int .i64 y.m, .int .i64 y.b, .slice (some ⟨g1, 0, none⟩) m k1, .slice (some ⟨g2, 0, none⟩) m k2, .slice (some ⟨g3, 0, none⟩) m k3] (by simp only [fdE, cell1_slice]) (by have := B3.size; omega) (by omega) (by omega)
            have hnew : Fam w' w3.heap.size v' (l ++ [⟨true, y, .slice (some ⟨g1, 0, none⟩) m k1, .slice (some ⟨g2, 0, none⟩) m k2, .slice (some ⟨g3, 0, none⟩) m k3⟩]) := by
              obtain ⟨h1, h2, h3⟩ := hys.out
              refine hF.push (C := W.heap.size) hb.size ⟨by rw [h1]; exact o1, by rw [h2]; exact o2.mono (by omega), by rw [h3]; exact o3.mono (by omega), ?_, ?_, ?_⟩ B3 hO hK4 hv4 hwr
              · intro j h1 h2; simp [Value.ownBlock] at h1 h2; omega
              · intro j h1 h2; simp [Value.ownBlock] at h1 h2; omega
              · intro j h1 h2; simp [Value.ownBlock] at h1 h2; omega
            have hyy : (l ++ [(⟨true, y, .slice (some ⟨g1, 0, none⟩) m k1, .slice (some ⟨g2, 0, none⟩) m k2, .slice (some ⟨g3, 0, none⟩) m k3⟩ : Fd)]).map Fd.x = famXs x gens (k + 1) := by
              rw [List.map_append, hx]
              simp only [famXs, List.range_succ, List.map_append, List.map_cons, List.map_nil, hy.out]
            have hht : ∀ f ∈ l ++ [(⟨true, y, .slice (some ⟨g1, 0, none⟩) m k1, .slice (some ⟨g2, 0, none⟩) m k2, .slice (some ⟨g3, 0, none⟩) m k3⟩ : Fd)], f.has = true := fun f hf => by
              rcases List.mem_append.1 hf with h | h
              · exact hh f h
              · obtain rfl : f = _ := by simpa using h
                rfl
            have hbe := (hB.trans (B3.mono hwr)).trans hB4
            clear o1 o2 o3 hO hF3 hF hx hh hK4 hB4 hll
            have ⟨e0, e1, e2, e3, e4, e5, e6, e7, e8, elt⟩ := Y3.a
            go_upto_region 5 with (at_builtin; refine wpList_append_run hap _ _ rfl rfl rfl rfl rfl ?_)
            clear hap e0 e1 e2 e3 e4 e5 e6 e7 e8 elt Y3
            go_wp2_with (fail)
            go_roundw
            case rel => exact ⟨k + 1, _, by omega, by go_num, hnew, hyy, hht, hbe⟩
            case measure => simp [intOf]; omega
    · obtain rfl : k = N := by omega
      have y5 : ¬ ((k : Int) < (k : Int)) := by omega
      have ⟨e0, e1, e2, e3, e4, e5, e6, e7, e8, elt⟩ := XB.a
      go_wp2_with (fail)
      go_ret2
      exact ⟨_, _, rfl, by rw [hN1]; exact hx, hh, hF.mono hws, Bw⟩
end Go.Proofs.YtaopknddpagjeaaDoor
