import Derived.Test.YtjgafpkpoppcbaaGreatDoorStrQ4
import Derived.Test.YtjgafpkpoppcbaaGreatDoorStrQ5
import Derived.Test.YtjgafpkpoppcbaaGreatDoorStrCall
import Derived.Test.YtjgafpkpoppcbaaGreatDoorStrActs
import Derived.Test.YtjgafpkpoppcbaaGreatDoorStrTwo
set_option linter.unusedVariables false
set_option linter.unusedSimpArgs false
namespace Go.Proofs.YtjgafpkpoppcbaaGreatDoor
open Go.RowKit
set_option maxRecDepth 100000
structure P13 (w W : World) (Sa Sb : Nat → Prop) (ka kb n g : Nat) (K M B : Int) (R Q : Rk) (xb : Nat) (X : Obj) : Prop where
  sw : SW w Sa W ka n g K M B R
  q : KA w Sb W kb n Q
  d : ∀ z, Sa z → ¬ Sb z
  gn : ¬ Sb g
  bx : W.heap[xb]? = some X
  ba : ¬ Sa xb
  bb : ¬ Sb xb
section
variable {w W W' : World} {Sa Sb Sa' Sb' : Nat → Prop} {ka kb n g xb : Nat} {K M B : Int} {R Q R' Q' : Rk} {X : Obj}
theorem P13.xl (h : P13 w W Sa Sb ka kb n g K M B R Q xb X) : xb < W.heap.size := (Array.getElem?_eq_some_iff.1 h.bx).1
theorem P13.stpA (h : P13 w W Sa Sb ka kb n g K M B R Q xb X) (hs : Stp Sa Sa' W W') (ha : RA w Sa' W' ka n R') : P13 w W' Sa' Sb ka kb n g K M B R' Q xb X := by
  have hq := h.q.stepR hs (RA.from h.sw.ra) (fun x y z => h.d x z y)
  refine ⟨h.sw.stp hs ha, hq.1, fun z y y2 => hq.2 z y2 y, h.gn, (hs.oth xb h.xl h.ba).trans h.bx, fun z => ?_, h.bb⟩
  rcases hs.grow xb z with y | y
  · exact h.ba y
  · have := h.xl; omega
theorem P13.stpQ (h : P13 w W Sa Sb ka kb n g K M B R Q xb X) (hs : Stp Sb Sb' W W') (hq : KA w Sb' W' kb n Q') : P13 w W' Sa Sb' ka kb n g K M B R Q' xb X := by
  have ha := RA.stepR h.sw.ra hs h.q.f h.d
  have hg : W'.heap[g]? = W.heap[g]? := hs.oth g h.sw.gl h.gn
  refine ⟨⟨ha.1, hg.trans h.sw.gb, h.sw.gn, h.sw.tb.of_cells fun b o hb => cell_of_heap (hs.oth b (Nat.lt_of_lt_of_le hb h.sw.tb.two) fun z => by have := h.q.f b z; have := h.sw.two; omega) o, h.sw.two⟩, hq, ha.2, fun z => ?_, (hs.oth xb h.xl h.bb).trans h.bx, h.ba, fun z => ?_⟩
  · rcases hs.grow g z with y | y
    · exact h.gn y
    · have := h.sw.gl; omega
  · rcases hs.grow xb z with y | y
    · exact h.bb y
    · have := h.xl; omega
theorem P13.after (h : P13 w W Sa Sb ka kb n g K M B R Q xb X) (hb : Below W.heap.size W W') : P13 w W' Sa Sb ka kb n g K M B R Q xb X := h.stpA (Stp.quiet hb) (h.sw.ra.after hb)
theorem P13.cell (h : P13 w W Sa Sb ka kb n g K M B R Q xb X) {cs : Array Value} {T : TypeId} {fr : Nat × Nat} (e : X = .cells cs T fr) (i : Nat) : W.cell? ⟨xb, i, none⟩ = cs[i]? := by
  have := h.bx
  rw [e] at this
  simp [World.cell?, this]
theorem P13.lt (h : P13 w W Sa Sb ka kb n g K M B R Q xb X) : (∀ z, Sa z → z < W.heap.size) ∧ ∀ z, Sb z → z < W.heap.size := ⟨RA.lt h.sw.ra, h.q.lt⟩
theorem P13.from (h : P13 w W Sa Sb ka kb n g K M B R Q xb X) : (∀ z, Sa z → w.heap.size ≤ z) ∧ ∀ z, Sb z → w.heap.size ≤ z := ⟨RA.from h.sw.ra, h.q.f⟩
theorem P13.b (h : P13 w W Sa Sb ka kb n g K M B R Q xb X) : Below w.heap.size w W := h.sw.ra.b
end
theorem mulL_fits13 (a b : List ByteArray) : Fits (mulL a b) := by
  rw [mulL]
  split
  · rename_i h
    unfold mulOk at h
    simp only [Bool.and_eq_true] at h
    obtain ⟨⟨h1, h2⟩, h3⟩ := h
    obtain ⟨k1, k2, k3, k4, k5⟩ := mR_facts h1
    obtain ⟨l1, l2, l3, l4, l5⟩ := mR_facts h2
    refine Fits.small (by rw [List.length_map]; omega) fun i hi => ?_
    rw [List.length_map] at hi
    rw [List.getD_eq_getElem?_getD, List.getElem?_map, List.getElem?_eq_getElem hi]
    show (comb _ b b.length).size ≤ _
    rw [comb_size]; omega
  · exact Fits.nil
theorem ea_len {σ : Type} (f : σ → Int → σ × Int) : ∀ (l : List Int) (s : σ) (acc : List Int), (ea f s acc l).2.1.length ≤ acc.length + l.length
  | [], s, acc => by simp [ea]
  | x :: xs, s, acc => by
    unfold ea
    split
    · have := ea_len f xs (f s x).1 acc
      simp only [List.length_cons]; omega
    · split
      · have := ea_len f xs (f s x).1 (acc ++ [x])
        simp only [List.length_append, List.length_cons, List.length_nil] at this ⊢; omega
      · simp
theorem stF_len {n : Nat} {R : Rk} {l : List Int} : (stF n R l).2.1.length ≤ l.length := by
  unfold stF
  split
  · have := ea_len (fl1 n) l R []; simpa using this
  · simp
theorem stW_len {n : Nat} {R : Rk} {id K M B N : Int} {l : List Int} {data : List ByteArray} : (stW n R id K M B l N data).2.1.length ≤ l.length := by
  unfold stW
  split
  · split
    · have := ea_len (wr1 n id K M B N (encSL K M data)) l R []; simpa using this
    · simp
  · simp
theorem rdF_len13 {n : Nat} {R : Rk} {id K M B N : Int} : ∀ (l : List Int) sh hv bad, (rdF n R id K M B N sh hv bad l).2.2.length ≤ bad.length + l.length
  | [], sh, hv, bad => by simp [rdF]
  | x :: xs, sh, hv, bad => by
    unfold rdF
    refine Nat.le_trans (rdF_len13 xs _ _ _) ?_
    split
    · simp
    · simp; omega
theorem stR_len13 {n : Nat} {R : Rk} {id K M B N : Int} {l : List Int} : (stR n R id K M B l N).1.length ≤ 140737488355328 ∧ (stR n R id K M B l N).2.1.length ≤ l.length := by
  have hb : (rdA n R id K M B N l).2.2.length ≤ l.length := by have := rdF_len13 (n := n) (R := R) (id := id) (K := K) (M := M) (B := B) (N := N) l (List.replicate n ⟨#[]⟩) (List.replicate n false) []; simpa [rdA] using this
  have hd : (decL M (rdA n R id K M B N l).1 (rdA n R id K M B N l).2.1).length ≤ 140737488355328 := by
    unfold decL
    split
    · exact (mulL_fits13 _ _).n
    · simp
  unfold stR
  split
  · split
    · simp
    · split
      · exact ⟨hd, hb⟩
      · exact ⟨by simp, hb⟩
  · simp
theorem Reads.pre13 {w : World} {a : Option Addr} {n c q : Nat} {xs : List Value} (h : Reads w (.slice a n c) xs) (hq : q ≤ xs.length) : Reads w (.slice a q c) (xs.take q) := by
  rcases h with ⟨_, rfl⟩ | ⟨b, off, cap, e, h2, h3⟩
  · have : q = 0 := by simpa using hq
    subst this
    exact .inl ⟨⟨_, _, rfl⟩, by simp⟩
  · injection e with e1 e2 e3
    subst e1
    subst e3
    refine .inr ⟨b, off, _, by rw [List.length_take, Nat.min_eq_left hq], h2, fun i hi => ?_⟩
    rw [List.length_take, Nat.min_eq_left hq] at hi
    rw [h3 i (by omega), List.getD_eq_getElem?_getD, List.getD_eq_getElem?_getD, List.getElem?_take, if_pos hi]
theorem sum_left (c : Nat) (hc : c ≤ 1000) (W : World) : (binOp .add 3 (.int .i64 1) (.int .i64 (c : Int))).run Tryz.prog W = .ok (.int .i64 (1 + (c : Int))) W := by
  have h : IntKind.i64.wrap (1 + (c : Int)) = 1 + (c : Int) := IntWalk.i64_in _ ⟨by omega, by omega⟩
  simp [binOp, Op.intArith, h]
theorem rok_re13 {n : Nat} {R : Rk} {b : Nat} (h : ROk n R b) (l : List (Value × List Int)) : ROk n (reR R l) b := ⟨h.1, ⟨Int.le_refl _, by show (0 : Int) ≤ _; omega⟩, fun i hi => Vn.none _ _ _⟩
structure SBx (W : World) (Sa Sb : Nat → Prop) (b bd k c : Nat) (N : Int) (D : List ByteArray) : Prop where
  s : W.heap[b]? = some (.cells #[.int .i64 N, .slice (some ⟨bd, 0, none⟩) k c] 42 (0, 0))
  o : Own W 0 9 (.slice (some ⟨bd, 0, none⟩) k c) (tx D)
  na : ¬ Sa b ∧ ¬ Sb b ∧ ¬ Sa bd ∧ ¬ Sb bd
  ne : bd ≠ b
theorem stf_nil (w : World) : Calls Tryz.prog 5 #[.pointer none, .slice none 0 0] w fun e w' => e = .returned (.tuple #[.slice none 0 0, .int .i64 1]) ∧ w = w' := by
  go_enter Tryz.func5, Tryz.ntmps5
  go_wp2_with (fail)
  go_ret2
  exact ⟨rfl, rfl⟩
end Go.Proofs.YtjgafpkpoppcbaaGreatDoor
