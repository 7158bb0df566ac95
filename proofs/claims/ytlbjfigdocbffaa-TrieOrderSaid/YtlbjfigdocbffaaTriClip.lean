/- trie: Clip. -/
import Derived.Test.YtlbjfigdocbffaaTriBack
import Derived.Sort.CutIn
namespace Go.Proofs.Ytlbjfigdocbffaa
section
open Go Go.RowKit
set_option linter.unusedVariables false
set_option linter.unusedSimpArgs false

section
variable {w w' : World} {h g m n : Nat} {u : Value} {C : Nat → Nat} {Z : Int → Bool} {X : Nat → ByteArray}
/-- Blocks below B are as they were: so is a heap that lies there. -/
theorem Hp.belowB {B : Nat} (H : Hp w h g m n u C Z X) (hb : Below B w w') (h0 : h < B) (h1 : g < B) (h2 : m < B) (h3 : ∀ k, u.ownBlock = some k → k < B) : Hp w' h g m n u C Z X := by
  obtain ⟨F, H⟩ := H
  exact ⟨F, ⟨(hb.block h h0).trans H.b, H.t.below hb h1, H.p.heap (hb.block m h2), H.s.same hb.size (fun k hk => hb.block k (h3 k hk)), H.sb, H.sm, H.hg, H.hm, H.gm, H.f, H.z, H.k, H.x⟩⟩
theorem Hp.blk (H : Hp w h g m n u C Z X) : ∀ k, u.ownBlock = some k → k < w.heap.size := fun k hk => by
  obtain ⟨F, H⟩ := H
  exact H.blk k hk (by have := H.sm.n8; omega)
theorem Hp.blkG (H : Hp w h g m n u C Z X) : ∀ k, u.ownBlock = some k → k ≠ g ∧ k ≠ m := fun k hk => by
  obtain ⟨F, H⟩ := H
  exact H.sb k hk
theorem boxed_to {B : Nat} {t : TypeId} {v : Value} (hx : Boxed w B t v) (hT : HTo w g m w') (h1 : B ≠ g) (h2 : B ≠ m) : Boxed w' B t v := (hT.oth B hx.lt h1 h2).trans hx
theorem boxed_below {B D : Nat} {t : TypeId} {v : Value} (hx : Boxed w B t v) (hb : Below D w w') (h : B < D) : Boxed w' B t v := (hb.block B h).trans hx
theorem PReads.same {v : Value} {L : List (Nat × Nat)} (hr : PReads w v L) (hs : w.heap.size ≤ w'.heap.size) (hb : ∀ k, v.ownBlock = some k → w'.heap[k]? = w.heap[k]?) : PReads w' v L := by
  rcases hr with hr | ⟨b, off, cap, h1, h2, h3⟩
  · exact .inl hr
  · refine .inr ⟨b, off, cap, h1, Nat.lt_of_lt_of_le h2 hs, fun j u hj => ?_⟩
    have := hb b (by rw [h1]; rfl)
    rw [← h3 j u hj]; simp only [World.cell?, this]
theorem HTo.own {B : Nat} {v : Value} (hT : HTo w g m w') (hB : w.heap.size ≤ B) (hb : B < w'.heap.size) : HTo w g m (w'.setCell ⟨B, 0, none⟩ v) :=
  ⟨⟨hT.b0.os, hT.b0.tape, hT.b0.output, by simpa using hT.b0.size, fun k hk => absurd hk (Nat.not_lt_zero _)⟩, fun k h1 h2 h3 => (Below.heap_setCell _ _ _ _ (fun e => by have e : k = B := e; omega)).trans (hT.oth k h1 h2 h3)⟩
end
/-- What holds between two rounds. -/
structure ClI (w : World) (h g m n : Nat) (u : Value) (Cs : Nat → Nat → Nat) (Zs : Nat → Int → Bool) (Xs : Nat → Nat → ByteArray) (rs : Nat → Nat) (size J g0 e5 bx : Nat) (v : Value) (L : List (Nat × Nat)) (j : Nat) (W : World) : Prop where
  le : j ≤ J
  hp : Hp W h g m n u (Cs j) (Zs j) (Xs j)
  b0 : Boxed W g0 30 (.pointer (some ⟨h, 0, none⟩))
  b1 : Boxed W (g0 + 1) 3 (.int .i64 (rs j : Int))
  b2 : Boxed W (g0 + 1 + 1) 3 (.int .i64 (size : Int))
  b3 : Boxed W (g0 + 1 + 1 + 1) 3 (.int .i64 0)
  b4 : Boxed W (g0 + 1 + 1 + 1 + 1) 37 (.int .i64 0)
  b5 : Boxed W e5 37 (.int .i64 0)
  b6 : Boxed W bx 63 v
  rd : PReads W v L
  to : HTo w g m W
/-- Where its boxes lie. -/
structure ClP (w : World) (h g m : Nat) (u : Value) (g0 e5 bx D : Nat) (v : Value) : Prop where
  pg0 : g0 = w.heap.size
  pe5 : g0 + 4 < e5
  pbx : e5 < bx
  pD : bx < D
  ph : h < g0
  pg : g < g0
  pm : m < g0
  pu : ∀ k, u.ownBlock = some k → k < g0
  pv : ∀ k, v.ownBlock = some k → g0 + 4 < k ∧ k < e5
section
variable {w W W' : World} {h g m n : Nat} {u : Value} {Cs : Nat → Nat → Nat} {Zs : Nat → Int → Bool} {Xs : Nat → Nat → ByteArray} {rs : Nat → Nat} {size J g0 e5 bx D : Nat} {v : Value} {L : List (Nat × Nat)} {j : Nat}
theorem ClI.below (I : ClI w h g m n u Cs Zs Xs rs size J g0 e5 bx v L j W) (p : ClP w h g m u g0 e5 bx D v) (hb : Below D W W') (hs : D ≤ W.heap.size) : ClI w h g m n u Cs Zs Xs rs size J g0 e5 bx v L j W' := by
  have := p.pe5; have := p.pbx; have := p.pD; have := p.ph; have := p.pg; have := p.pm; have := p.pg0
  refine ⟨I.le, I.hp.belowB hb (by omega) (by omega) (by omega) (fun k hk => by have := p.pu k hk; omega), boxed_below I.b0 hb (by omega), boxed_below I.b1 hb (by omega), boxed_below I.b2 hb (by omega), boxed_below I.b3 hb (by omega), boxed_below I.b4 hb (by omega), boxed_below I.b5 hb (by omega), boxed_below I.b6 hb (by omega), I.rd.same hb.size (fun k hk => hb.block k (by have := p.pv k hk; omega)), ?_⟩
  exact ⟨⟨hb.os.trans I.to.b0.os, hb.tape.trans I.to.b0.tape, hb.output.trans I.to.b0.output, Nat.le_trans I.to.b0.size hb.size, fun k hk => absurd hk (Nat.not_lt_zero _)⟩, fun k h1 h2 h3 => (hb.block k (by omega)).trans (I.to.oth k h1 h2 h3)⟩
end
end
section
open Go Go.RowKit Go.Shelf
attribute [local go_sem] Oper.semAt_some
set_option linter.unusedVariables false
set_option linter.unusedSimpArgs false

variable {w W W' : World} {h g m n : Nat} {u : Value} {Cs : Nat → Nat → Nat} {Zs : Nat → Int → Bool} {Xs : Nat → Nat → ByteArray} {rs : Nat → Nat} {size J : Nat} {L : List (Nat × Nat)}
set_option maxRecDepth 100000 in
set_option maxHeartbeats 4000000 in
theorem clip_of (H : Hp w h g m n u (Cs 0) (Zs 0) (Xs 0)) (hsz : size ≤ 4096) (hL : L.length ≤ 4096)
    (hp : ∀ W, Hp W h g m n u (Cs 0) (Zs 0) (Xs 0) → Calls Try.prog 34 #[.pointer (some ⟨h, 0, none⟩), .int .i64 (rs 0 : Int)] W (GivesP W L))
    (hJ : J ≤ L.length) (hge : ∀ j, j < J → size ≤ (fromEnd L j).1) (hlt : J < L.length → (fromEnd L J).1 < size)
    (hcut : ∀ j, j < J → ∀ W, Hp W h g m n u (Cs j) (Zs j) (Xs j) → Calls Try.prog 28 #[.pointer (some ⟨h, 0, none⟩), .int .i64 (rs j : Int), .int .i64 ((fromEnd L j).1 : Int)] W (HpG W h g m n u (Cs (j + 1)) (Zs (j + 1)) (Xs (j + 1)) (.tuple #[.int .i64 (rs (j + 1) : Int), .int .i64 0]))) :
    Calls Try.prog 33 #[.pointer (some ⟨h, 0, none⟩), .int .i64 (rs 0 : Int), .int .i64 (size : Int)] w (HpG w h g m n u (Cs J) (Zs J) (Xs J) (.tuple #[.int .i64 (rs J : Int), .int .i64 0])) := by
  obtain ⟨g0, hg0⟩ : ∃ g0, w.heap.size = g0 := ⟨_, rfl⟩
  refine callsIn_wide.1 (callsIn_of_wp_marks (n := 6) Try.func33 rfl trivial ?_ rfl)
  simp only [Try.ntmps33, List.size_toArray, List.length_cons, List.length_nil, Nat.reduceAdd, Nat.reduceSub, Array.replicate_succ, Array.replicate_zero, List.push_toArray, List.append_toArray, List.nil_append, List.cons_append]
  obtain ⟨w1, hw1⟩ : ∃ w1, w1 = ((((w.alloc (.cells #[.pointer (some ⟨h, 0, none⟩)] 30)).alloc (.cells #[.int .i64 (rs 0 : Int)] 3)).alloc (.cells #[.int .i64 (size : Int)] 3)).alloc (.cells #[.int .i64 0] 3)).alloc (.cells #[.int .i64 0] 37) := ⟨_, rfl⟩
  have b0 : Boxed w1 g0 30 (.pointer (some ⟨h, 0, none⟩)) := by rw [hw1, ← hg0]; exact ((((Boxed.new _ _ _).alloc _).alloc _).alloc _).alloc _
  have b1 : Boxed w1 (g0 + 1) 3 (.int .i64 (rs 0 : Int)) := by
    have := (((Boxed.new (w.alloc (.cells #[.pointer (some ⟨h, 0, none⟩)] 30)) 3 (.int .i64 (rs 0 : Int))).alloc (.cells #[.int .i64 (size : Int)] 3)).alloc (.cells #[.int .i64 0] 3)).alloc (.cells #[.int .i64 0] 37)
    rw [World.size_alloc, hg0] at this
    rw [hw1]; exact this
  have b2 : Boxed w1 (g0 + 1 + 1) 3 (.int .i64 (size : Int)) := by
    have := ((Boxed.new ((w.alloc (.cells #[.pointer (some ⟨h, 0, none⟩)] 30)).alloc (.cells #[.int .i64 (rs 0 : Int)] 3)) 3 (.int .i64 (size : Int))).alloc (.cells #[.int .i64 0] 3)).alloc (.cells #[.int .i64 0] 37)
    rw [World.size_alloc, World.size_alloc, hg0] at this
    rw [hw1]; exact this
  have b3 : Boxed w1 (g0 + 1 + 1 + 1) 3 (.int .i64 0) := by
    have := (Boxed.new (((w.alloc (.cells #[.pointer (some ⟨h, 0, none⟩)] 30)).alloc (.cells #[.int .i64 (rs 0 : Int)] 3)).alloc (.cells #[.int .i64 (size : Int)] 3)) 3 (.int .i64 0)).alloc (.cells #[.int .i64 0] 37)
    rw [World.size_alloc, World.size_alloc, World.size_alloc, hg0] at this
    rw [hw1]; exact this
  have b4 : Boxed w1 (g0 + 1 + 1 + 1 + 1) 37 (.int .i64 0) := by
    have := Boxed.new ((((w.alloc (.cells #[.pointer (some ⟨h, 0, none⟩)] 30)).alloc (.cells #[.int .i64 (rs 0 : Int)] 3)).alloc (.cells #[.int .i64 (size : Int)] 3)).alloc (.cells #[.int .i64 0] 3)) 37 (.int .i64 0)
    rw [World.size_alloc, World.size_alloc, World.size_alloc, World.size_alloc, hg0] at this
    rw [hw1]; exact this
  have B1 : Below w.heap.size w w1 := by
    rw [hw1]; exact (((((Below.refl _ w).alloc (Nat.le_refl _) _).alloc (by simp) _).alloc (by simp <;> omega) _).alloc (by simp <;> omega) _).alloc (by simp <;> omega) _
  have s1 : w1.heap.size = g0 + 5 := by rw [hw1, ← hg0]; simp
  have cp := hp w1 (H.below B1)
  have hgl := H.lts g (.inr (.inl rfl))
  have hml := H.lts m (.inr (.inr (.inl rfl)))
  have hhl := H.lts h (.inl rfl)
  have hul := H.blk
  have hug := H.blkG
  have c0 := b0.cell
  have c1 := b1.cell
  have c2 := b2.cell
  have HH := Lib.hid (H.below B1)
  have HB1 := Lib.hid B1
  have t1 : ¬ ((size : Int) < 0) := by omega
  have t2 : ¬ ((4096 : Int) < (size : Int)) := by omega
  have t3 : decide ((size : Int) < 0) = false := decide_eq_false t1
  have t4 : decide ((4096 : Int) < (size : Int)) = false := decide_eq_false t2
  have t5 : decide ((size : Int) > 4096) = false := decide_eq_false t2
  have hg0' := Lib.hid hg0
  clear hp H B1 s1 hg0 t1 t2
  gi_upto_region 3 with (fail)
  rw [← hw1, hg0'.out]
  clear hw1
  gi_wp2_with (fail)
  refine ⟨trivial, (callsIn_wide.2 cp).mono ?_⟩
  rintro e w2 ⟨v, rfl, o2, B2⟩
  obtain ⟨a, c, rfl⟩ : ∃ a c, v = .slice a L.length c := by
    rcases o2.forms with ⟨rfl, rfl⟩ | ⟨g, c, rfl, _, _⟩
    · exact ⟨_, _, rfl⟩
    · exact ⟨_, _, rfl⟩
  obtain ⟨e5, he5⟩ : ∃ e5, w2.heap.size = e5 := ⟨_, rfl⟩
  obtain ⟨w3, hw3⟩ : ∃ w3, w3 = w2.alloc (.cells #[.int .i64 0] 37) := ⟨_, rfl⟩
  have q3 : Below w2.heap.size w2 w3 := by rw [hw3]; exact (Below.refl _ _).alloc (Nat.le_refl _) _
  have b5 : Boxed w3 e5 37 (.int .i64 0) := by rw [hw3, ← he5]; exact Boxed.new _ _ _
  have s3 : w3.heap.size = e5 + 1 := by rw [hw3, ← he5]; simp
  have cb := backward_any a L.length c w3
  have c5 := b5.cell
  gi_upto_region 4 with (fail)
  rw [← hw3]
  clear hw3
  clear cp c0 c1 c2
  gi_wp2_with (fail)
  refine ⟨trivial, (callsIn_wide.2 cb).mono ?_⟩
  rintro e w4 ⟨rfl, hw4⟩
  clear cb c5
  obtain ⟨bx, hbx⟩ : ∃ bx, w3.heap.size = bx := ⟨_, rfl⟩
  have q4 : Below w3.heap.size w3 w4 := by rw [hw4]; exact (Below.refl _ _).alloc (Nat.le_refl _) _
  have b6 : Boxed w4 bx 63 (.slice a L.length c) := by rw [hw4, ← hbx]; exact Boxed.new _ _ _
  have s4 : w4.heap.size = bx + 1 := by rw [hw4, ← hbx]; simp
  have B24 : Below w2.heap.size w2 w4 := q3.trans (q4.mono q3.size)
  have B14 : Below w1.heap.size w1 w4 := B2.trans (B24.mono B2.size)
  have p : ClP w h g m u g0 e5 bx (bx + 1) (.slice a L.length c) := by
    have h1 := hg0'.out
    have h2 := b4.lt
    have h3 := B2.size
    refine ⟨h1.symm, by omega, by omega, by omega, by omega, by omega, by omega, fun k hk => by have := hul k hk; omega, fun k hk => ?_⟩
    have := o2.lt k hk
    omega
  have I0 : ClI w h g m n u Cs Zs Xs rs size J g0 e5 bx (.slice a L.length c) L 0 w4 := by
    have hw1 := HB1.out
    refine ⟨Nat.zero_le _, HH.out.below B14, boxed_below b0 B14 b0.lt, boxed_below b1 B14 b1.lt, boxed_below b2 B14 b2.lt, boxed_below b3 B14 b3.lt, boxed_below b4 B14 b4.lt, boxed_below b5 q4 b5.lt, b6, ReadsE.below o2.reads B24, HTo.quiet (hw1.trans (B14.mono hw1.size))⟩
  have HP := Lib.hid p
  have HI0 := Lib.hid I0
  have HS4 := Lib.hid s4
  try rw [hbx]
  clear b0 b1 b2 b3 b4 b5 b6 o2 B2 q3 q4 B24 B14 hw4 hbx he5 s3 s4 p I0 hgl hml hhl hul hug
  gi_wp2_with (fail)
  refine range_stops rfl (by decide) (gf := 58) (lb := #[.pointer (some ⟨bx, 0, none⟩)]) rfl trivial (enters_of Try.func58 (by kernel_rfl) rfl)
    L.length (backEnc L) (fun _ => rfl)
    (fun j W => ClI w h g m n u Cs Zs Xs rs size J g0 e5 bx (.slice a L.length c) L j W ∧ bx + 1 ≤ W.heap.size)
    (fun cc W => cc = .exit 0 ∧ ClI w h g m n u Cs Zs Xs rs size J g0 e5 bx (.slice a L.length c) L J W ∧ bx + 1 ≤ W.heap.size)
    ?hI ?hIx ⟨HI0.out, by have := HS4.out; omega⟩
    (fun i a' W => ∃ Bx, bx + 1 ≤ Bx ∧ W.heap[Bx]? = some (.cells #[.int .i64 ((fromEnd L i).1 : Int), .int .i64 ((fromEnd L i).2 : Int)] 69 (0, 0)) ∧ a' = { tmps := #[.pointer (some ⟨h, 0, none⟩), .int .i64 (rs 0 : Int), .int .i64 (size : Int), .pointer (some ⟨g0, 0, none⟩), .pointer (some ⟨g0 + 1, 0, none⟩), .pointer (some ⟨g0 + 1 + 1, 0, none⟩), .pointer (some ⟨g0 + 1 + 1 + 1, 0, none⟩), .pointer (some ⟨g0 + 1 + 1 + 1 + 1, 0, none⟩), .slice a L.length c, .pointer (some ⟨e5, 0, none⟩), undef, .pointer (some ⟨Bx, 0, none⟩), .int .i64 (size : Int), .bool false, .bool false, .int .i64 (size : Int), .bool false, .bool false, .tuple #[.slice a L.length c, .int .i64 0], .pointer (some ⟨h, 0, none⟩), .int .i64 (rs 0 : Int), .tuple #[.slice a L.length c, .int .i64 0], .slice a L.length c, .int .i64 0, .int .i64 0, .bool false, undef, .slice a L.length c, .func (.func 58) #[] #[.pointer (some ⟨bx, 0, none⟩)], .int .i64 ((L.length : Int) - 1 - (i : Int)), .agg #[.int .i64 ((fromEnd L i).1 : Int), .int .i64 ((fromEnd L i).2 : Int)], undef, undef, undef, undef, undef, undef, undef, undef, undef, undef, undef, undef, undef, undef, undef, undef], defers := [] })
    ?assign ?hAx ?body (fun W => W.cell? ⟨bx, 0, none⟩ = some (.slice a L.length c) ∧ PReads W (.slice a L.length c) L) (fun i W I => ⟨I.1.b6.cell, I.1.rd⟩)
    (fun l J' Jx W hR h0 hY => back_in .wide (6 - 1) trivial rfl (by decide) l bx _ L (by omega) J' Jx hR hY W h0) ?done ?stop
  case assign =>
    intro l i W K hi hl I hK
    have hfin : Hid (KeepsFrom w4.heap.size W (W.alloc (.cells #[.int .i64 ((fromEnd L i).1 : Int), .int .i64 ((fromEnd L i).2 : Int)] 69))) := Lib.hid ((KeepsOthers.alloc _ _).from _)
    have hfin2 : Hid (Below W.heap.size W (W.alloc (.cells #[.int .i64 ((fromEnd L i).1 : Int), .int .i64 ((fromEnd L i).2 : Int)] 69))) := Lib.hid ((Below.refl _ _).alloc (Nat.le_refl _) _)
    have HI := Lib.hid I
    have hle := I.2
    clear I
    obtain ⟨Bx, hBx⟩ : ∃ Bx, W.heap.size = Bx := ⟨_, rfl⟩
    have hnew : Hid ((W.alloc (.cells #[.int .i64 ((fromEnd L i).1 : Int), .int .i64 ((fromEnd L i).2 : Int)] 69)).heap[Bx]? = some (.cells #[.int .i64 ((fromEnd L i).1 : Int), .int .i64 ((fromEnd L i).2 : Int)] 69 (0, 0))) := Lib.hid (by rw [← hBx]; exact heap_alloc_new _ _)
    have hle2 : Hid (bx + 1 ≤ Bx) := Lib.hid (by omega)
    unfold backEnc
    gi_wp2
    exact hK _ _ hfin.out ⟨HI.out.1.below HP.out (hfin2.out.mono HI.out.2) HI.out.2, Nat.le_trans HI.out.2 hfin2.out.size⟩ ⟨Bx, hle2.out, hnew.out, rfl⟩
  case hI =>
    intro j W W' row hs hg hr
    have hb : Below (bx + 1) W W' := (Below.refl _ _).grown hg hs.2 (fun k e => by have := (hr k e).1; have := HS4.out; omega)
    exact ⟨hs.1.below HP.out hb hs.2, Nat.le_trans hs.2 hb.size⟩
  case hIx =>
    intro j W W' row hs hg hr
    have hb : Below (bx + 1) W W' := (Below.refl _ _).grown hg hs.2.2 (fun k e => by have := (hr k e).1; have := HS4.out; omega)
    exact ⟨hs.1, hs.2.1.below HP.out hb hs.2.2, Nat.le_trans hs.2.2 hb.size⟩
  case hAx =>
    rintro i l a' W o o' hl ho hc ⟨Bx, h1, h2, h3⟩
    refine ⟨Bx, h1, ?_, h3⟩
    rw [World.putObj_heap_other (fun e => ?_)]
    · exact h2
    · subst e
      rw [h2] at ho
      cases ho
      cases hc
  case body =>
    rintro l i a' W hi hl ⟨I, hle⟩ ⟨Bx, hBx, hbx, rfl⟩
    have c0 := I.b0.cell
    have c1 := I.b1.cell
    have c2 := I.b2.cell
    have ck : W.cell? ⟨Bx, 0, none⟩ = some (.int .i64 ((fromEnd L i).1 : Int)) := by simp [World.cell?, hbx]
    by_cases hj : i < J
    · have hg1 := hge i hj
      have cc := hcut i hj W I.hp
      have t1 : ¬ (((fromEnd L i).1 : Int) < (size : Int)) := by omega
      have t2 : decide (((fromEnd L i).1 : Int) < (size : Int)) = false := decide_eq_false t1
      have HI := Lib.hid I
      have hle' := Lib.hid hle
      clear I hle hbx hge hlt hcut
      generalize (fromEnd L i).1 = key at *
      generalize (fromEnd L i).2 = blk at *
      gi_wp2_with (fail)
      refine ⟨trivial, (CallsIn.inRound l (callsIn_wide.2 cc)).mono ?_⟩
      rintro e W2 ⟨rfl, T2, H2⟩
      have hP := HP.out
      have hI := HI.out
      have v1 := hP.pe5; have v2 := hP.pbx; have v3 := hP.pg; have v4 := hP.pm; have v5 := hP.pg0
      have d1 := boxed_to hI.b1 T2 (by omega) (by omega)
      have d5 := boxed_to hI.b5 T2 (by omega) (by omega)
      have e1 := d1.cell
      have f1 := d1.frozen
      have e5c := d5.cell
      have f5 := d5.frozen
      have hfin : Hid (∀ W3, W3 = (W2.setCell ⟨g0 + 1, 0, none⟩ (.int .i64 (rs (i + 1) : Int))).setCell ⟨e5, 0, none⟩ (.int .i64 0) → KeepsFrom w4.heap.size W W3 ∧ ClI w h g m n u Cs Zs Xs rs size J g0 e5 bx (.slice a L.length c) L (i + 1) W3 ∧ bx + 1 ≤ W3.heap.size ∧ W3.cell? ⟨e5, 0, none⟩ = some (.int .i64 0)) := Lib.hid fun W3 hW3 => by
        have k1 : KeepsFrom w4.heap.size W W2 := ⟨T2.size, fun k o hk ho hc => by
          have := HS4.out
          rw [T2.oth k (Array.getElem?_eq_some_iff.1 ho).1 (by omega) (by omega)]; exact ho⟩
        have k2 : KeepsFrom w4.heap.size W2 W3 := by
          rw [hW3]; exact ((KeepsOthers.setCell _ _ _).trans (KeepsOthers.setCell _ _ _)).from _
        have T3 : HTo w g m W3 := by
          rw [hW3]
          exact ((hI.to.trans T2).own (by omega) (by have := d1.lt; omega)).own (by omega) (by have := d5.lt; simp; omega)
        have hother : ∀ k, k ≠ g0 + 1 → k ≠ e5 → W3.heap[k]? = W2.heap[k]? := fun k h1 h2 => by
          rw [hW3, Below.heap_setCell _ _ _ _ (fun e => h2 e), Below.heap_setCell _ _ _ _ (fun e => h1 e)]
        have hsz3 : W3.heap.size = W2.heap.size := by rw [hW3]; simp
        have hb2 : ∀ {B : Nat} {t : TypeId} {x : Value}, Boxed W B t x → B ≠ g → B ≠ m → B ≠ g0 + 1 → B ≠ e5 → Boxed W3 B t x := fun hx h1 h2 h3 h4 => (hother _ h3 h4).trans (boxed_to hx T2 h1 h2)
        have hb5 : Boxed W3 e5 37 (.int .i64 0) := by
          rw [hW3]; exact Boxed.set _ (d5.other (by omega) _)
        refine ⟨k1.trans k2, ⟨by omega, ?_, hb2 hI.b0 (by omega) (by omega) (by omega) (by omega), ?_, hb2 hI.b2 (by omega) (by omega) (by omega) (by omega), hb2 hI.b3 (by omega) (by omega) (by omega) (by omega), hb2 hI.b4 (by omega) (by omega) (by omega) (by omega), hb5, hb2 hI.b6 (by omega) (by omega) (by omega) (by omega), ?_, T3⟩, by have := T2.size; have := hle'.out; omega, hb5.cell⟩
        · have hs : Below g0 W2 W3 := by
            rw [hW3]
            exact ((Below.refl g0 W2).setCell (p := ⟨g0 + 1, 0, none⟩) (by simp) _).setCell (p := ⟨e5, 0, none⟩) (by simp; omega) _
          exact H2.belowB hs hP.ph hP.pg hP.pm hP.pu
        · rw [hW3]; exact (Boxed.set _ d1).other (by omega) _
        · refine PReads.same (PReads.same hI.rd T2.size (fun k hk => T2.oth k ?_ ?_ ?_)) (Nat.le_of_eq hsz3.symm) (fun k hk => hother k ?_ ?_)
          all_goals (have := hP.pv k hk; have := hle'.out; omega)
      have d5b : Boxed (W2.setCell ⟨g0 + 1, 0, none⟩ (.int .i64 (rs (i + 1) : Int))) e5 37 (.int .i64 0) := d5.other (by omega) _
      have e5d := d5b.cell
      have f5d := d5b.frozen
      have n1 : ¬ (e5 = g0 + 1) := by omega
      have n2 : ¬ (g0 + 1 = e5) := by omega
      clear T2 H2 d1 d5 d5b cc v1 v2 v3 v4 v5 hP hI
      gi_upto_region 10 with (fail)
      generalize hW3 : (W2.setCell ⟨g0 + 1, 0, none⟩ (.int .i64 (rs (i + 1) : Int))).setCell ⟨e5, 0, none⟩ (.int .i64 0) = W3
      obtain ⟨k1, k2, k3, k4⟩ := hfin.out W3 hW3.symm
      have HK1 := Lib.hid k1
      have HK2 := Lib.hid k2
      clear hW3 k1 k2 hfin e1 f1 e5c f5 e5d f5d c0 c1 c2 ck
      gi_wp2_with (fail)
      first | exact ⟨HK1.out, HK2.out⟩ | exact ⟨HK1.out, HK2.out, k3⟩
    · have hij : i = J := by have := I.le; omega
      subst hij
      have hg1 := hlt hi
      have t1 : (((fromEnd L i).1 : Nat) : Int) < (size : Int) := by omega
      have t2 : decide (((fromEnd L i).1 : Int) < (size : Int)) = true := decide_eq_true t1
      have HI := Lib.hid I
      have hle' := Lib.hid hle
      clear I hle hbx hge hlt hcut
      generalize (fromEnd L i).1 = key at *
      generalize (fromEnd L i).2 = blk at *
      gi_wp2_with (fail)
      exact ⟨(KeepsOthers.refl _).from _, .inr ⟨_, rfl, rfl, HI.out, hle'.out⟩⟩
  case done =>
    rintro D W hD ⟨I, hle⟩ hK
    have hJe : J = L.length := by have := I.le; omega
    subst hJe
    have c1 := I.b1.cell
    have c3 := I.b3.cell
    have f3 := I.b3.frozen
    have c4 := I.b4.cell
    have f4 := I.b4.frozen
    obtain ⟨W2, hW2⟩ : ∃ W2, W2 = (W.setCell ⟨g0 + 1 + 1 + 1, 0, none⟩ (.int .i64 (rs L.length : Int))).setCell ⟨g0 + 1 + 1 + 1 + 1, 0, none⟩ (.int .i64 0) := ⟨_, rfl⟩
    have hK2 : W2.heap[D]? = some (.deferred (some [])) := by
      rw [hW2]; exact ((KeepsOthers.setCell _ _ _).trans (KeepsOthers.setCell _ _ _)).same D _ hK rfl
    obtain ⟨W3, hW3⟩ : ∃ W3, W3 = W2.putObj D (.deferred none) := ⟨_, rfl⟩
    have hP := HP.out
    have v1 := hP.pe5; have v2 := hP.pbx; have v3 := hP.pg; have v4 := hP.pm; have v5 := hP.pg0; have v6 := HS4.out
    have q3 : Boxed W3 (g0 + 1 + 1 + 1) 3 (.int .i64 (rs L.length : Int)) := by
      rw [hW3]
      refine (World.putObj_heap_other (by omega)).trans ?_
      rw [hW2]; exact (Boxed.set _ I.b3).other (by omega) _
    have q4 : Boxed W3 (g0 + 1 + 1 + 1 + 1) 37 (.int .i64 0) := by
      rw [hW3]
      refine (World.putObj_heap_other (by omega)).trans ?_
      rw [hW2]; exact Boxed.set _ (I.b4.other (by omega) _)
    have hs : Below g0 W W3 := by
      have h1 : Below g0 W W2 := by
        rw [hW2]
        exact ((Below.refl g0 W).setCell (p := ⟨g0 + 1 + 1 + 1, 0, none⟩) (by simp; omega) _).setCell (p := ⟨g0 + 1 + 1 + 1 + 1, 0, none⟩) (by simp; omega) _
      rw [hW3]
      exact h1.trans (belowK_b (n₀ := g0) (w := w4) (by omega) W2 D _ _ hD hK2 rfl rfl)
    have hfin : Hid (HTo w g m W3 ∧ Hp W3 h g m n u (Cs L.length) (Zs L.length) (Xs L.length)) := Lib.hid ⟨⟨⟨hs.os.trans I.to.b0.os, hs.tape.trans I.to.b0.tape, hs.output.trans I.to.b0.output, Nat.le_trans I.to.b0.size hs.size, fun k hk => absurd hk (Nat.not_lt_zero _)⟩, fun k h1 h2 h3 => (hs.block k (by omega)).trans (I.to.oth k h1 h2 h3)⟩, I.hp.belowB hs hP.ph hP.pg hP.pm hP.pu⟩
    have x3 := q3.cell
    have x4 := q4.cell
    have n1 : ¬ (g0 + 1 + 1 + 1 = g0 + 1 + 1 + 1 + 1) := by omega
    clear hs v1 v2 v3 v4 v5 v6 hP I q3 q4
    gi_wp2_with (fail)
    refine ⟨by simp, .inl ⟨_, _, rfl, run_takeDeferred (by rw [← hW2]; exact hK2), ?_⟩⟩
    rw [← hW2, ← hW3]
    refine ⟨.tuple #[.int .i64 (rs L.length : Int), .int .i64 0], ?_, rfl, hfin.out.1, hfin.out.2⟩
    simp [results, Try.f33, go_sem, x3, x4]
  case stop =>
    rintro D cc W hD ⟨rfl, I, hle⟩ hK
    have c1 := I.b1.cell
    have c3 := I.b3.cell
    have f3 := I.b3.frozen
    have c4 := I.b4.cell
    have f4 := I.b4.frozen
    obtain ⟨W2, hW2⟩ : ∃ W2, W2 = (W.setCell ⟨g0 + 1 + 1 + 1, 0, none⟩ (.int .i64 (rs J : Int))).setCell ⟨g0 + 1 + 1 + 1 + 1, 0, none⟩ (.int .i64 0) := ⟨_, rfl⟩
    have hK2 : W2.heap[D]? = some (.deferred (some [])) := by
      rw [hW2]; exact ((KeepsOthers.setCell _ _ _).trans (KeepsOthers.setCell _ _ _)).same D _ hK rfl
    obtain ⟨W3, hW3⟩ : ∃ W3, W3 = W2.putObj D (.deferred none) := ⟨_, rfl⟩
    have hP := HP.out
    have v1 := hP.pe5; have v2 := hP.pbx; have v3 := hP.pg; have v4 := hP.pm; have v5 := hP.pg0; have v6 := HS4.out
    have q3 : Boxed W3 (g0 + 1 + 1 + 1) 3 (.int .i64 (rs J : Int)) := by
      rw [hW3]
      refine (World.putObj_heap_other (by omega)).trans ?_
      rw [hW2]; exact (Boxed.set _ I.b3).other (by omega) _
    have q4 : Boxed W3 (g0 + 1 + 1 + 1 + 1) 37 (.int .i64 0) := by
      rw [hW3]
      refine (World.putObj_heap_other (by omega)).trans ?_
      rw [hW2]; exact Boxed.set _ (I.b4.other (by omega) _)
    have hs : Below g0 W W3 := by
      have h1 : Below g0 W W2 := by
        rw [hW2]
        exact ((Below.refl g0 W).setCell (p := ⟨g0 + 1 + 1 + 1, 0, none⟩) (by simp; omega) _).setCell (p := ⟨g0 + 1 + 1 + 1 + 1, 0, none⟩) (by simp; omega) _
      rw [hW3]
      exact h1.trans (belowK_b (n₀ := g0) (w := w4) (by omega) W2 D _ _ hD hK2 rfl rfl)
    have hfin : Hid (HTo w g m W3 ∧ Hp W3 h g m n u (Cs J) (Zs J) (Xs J)) := Lib.hid ⟨⟨⟨hs.os.trans I.to.b0.os, hs.tape.trans I.to.b0.tape, hs.output.trans I.to.b0.output, Nat.le_trans I.to.b0.size hs.size, fun k hk => absurd hk (Nat.not_lt_zero _)⟩, fun k h1 h2 h3 => (hs.block k (by omega)).trans (I.to.oth k h1 h2 h3)⟩, I.hp.belowB hs hP.ph hP.pg hP.pm hP.pu⟩
    have x3 := q3.cell
    have x4 := q4.cell
    have n1 : ¬ (g0 + 1 + 1 + 1 = g0 + 1 + 1 + 1 + 1) := by omega
    clear hs v1 v2 v3 v4 v5 v6 hP I q3 q4
    gi_wp2_with (fail)
    refine ⟨by simp, .inl ⟨_, _, rfl, run_takeDeferred (by rw [← hW2]; exact hK2), ?_⟩⟩
    rw [← hW2, ← hW3]
    refine ⟨.tuple #[.int .i64 (rs J : Int), .int .i64 0], ?_, rfl, hfin.out.1, hfin.out.2⟩
    simp [results, Try.f33, go_sem, x3, x4]
end
end Go.Proofs.Ytlbjfigdocbffaa
