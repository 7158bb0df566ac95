/- mat: the chapter's examples. -/
import Derived.Test.YtocaboamlagaaaaDoorMatSq
namespace Go.Proofs.YtocaboamlagaaaaDoor
open Go.RowKit
set_option linter.unusedVariables false
set_option linter.unusedSimpArgs false

theorem Reads.lit (w : World) (E : TypeId) (xs : List Value) (cap : Nat) : Reads (w.alloc (.cells xs.toArray E)) (.slice (some ⟨w.heap.size, 0, none⟩) xs.length cap) xs := by
  refine .inr ⟨w.heap.size, 0, cap, rfl, by simp, fun i hi => ?_⟩
  rw [World.cell?_alloc_mark]
  simp [List.getD_eq_getElem?_getD, hi]
theorem Fits.small {l : List ByteArray} (h1 : l.length ≤ 1000) (h2 : ∀ i, i < l.length → (l.getD i ⟨#[]⟩).size ≤ 100000) : Fits l := ⟨by omega, fun i hi => by have := h2 i hi; omega⟩
theorem Rect.fits {l : List ByteArray} {m n : Nat} (h : Rect l m n) (h1 : m ≤ 1000) (h2 : n ≤ 100000) : Fits l := Fits.small (by rw [h.l]; exact h1) (fun i hi => by rw [h.s i (by rw [← h.l]; exact hi)]; exact h2)
theorem Fits.nil : Fits [] := Fits.small (by decide) (fun i hi => by simp at hi)
def cy21 : List ByteArray := [⟨#[1, 142]⟩]
def ex1 : List ByteArray := [⟨#[1, 0]⟩, ⟨#[1, 142]⟩]
def ex2 : List ByteArray := [⟨#[1, 0]⟩, ⟨#[2, 2]⟩]
def ex3 : List ByteArray := [⟨#[1, 1]⟩, ⟨#[1, 1]⟩]
def ex4 : List ByteArray := [⟨#[1, 0]⟩, ⟨#[0, 1]⟩]
theorem ex_fits : Fits cy21 ∧ Fits ex1 ∧ Fits ex2 ∧ Fits ex3 ∧ Fits ex4 := by
  refine ⟨Fits.small (by decide) ?_, Fits.small (by decide) ?_, Fits.small (by decide) ?_, Fits.small (by decide) ?_, Fits.small (by decide) ?_⟩ <;> decide
set_option maxRecDepth 100000 in
set_option maxHeartbeats 2000000 in
theorem awake_any (w : World) (ht : Tabs w) :
    Calls Tryd.prog 12 #[] w (Says w (.bool true)) := by
  obtain ⟨f1, f2, f3, f4, f5⟩ := ex_fits
  have c1 := cauchy_any 2 1 w ht
  rw [show cyL 2 1 = cy21 by decide +kernel, show cyE 2 1 = 0 by decide +kernel] at c1
  have c2 := fun W hW v hv => inverse_any v ex1 W hW hv f2
  rw [show invL ex1 = ex2 by decide +kernel, show invE ex1 = 0 by decide +kernel] at c2
  have c3 := fun W hW v hv => inverse_any v ex3 W hW hv f4
  rw [show invL ex3 = [] by decide +kernel, show invE ex3 = 21 by decide +kernel] at c3
  have c4 := fun W => identity_any 2 W
  rw [show idL 2 = ex4 by decide +kernel, show idE 2 = 0 by decide +kernel] at c4
  have c5 := fun W hW va vb ha hb => mxmul_any va vb ex4 cy21 W hW ha hb f5 f1
  rw [show mulL ex4 cy21 = [] by decide +kernel, show mulE ex4 cy21 = 20 by decide +kernel] at c5
  have c6 := fun W hW va vb ha hb => mxmul_any va vb cy21 ex4 W hW ha hb f1 f5
  rw [show mulL cy21 ex4 = cy21 by decide +kernel, show mulE cy21 ex4 = 0 by decide +kernel] at c6
  have c7 := fun W va vb ha hb => same_any va vb cy21 cy21 W ha hb f1 f1
  rw [sameL_self] at c7
  have c8 := fun W va vb ha hb => same_any va vb ex2 ex2 W ha hb f3 f3
  rw [sameL_self] at c8
  have c9 := fun W v hv => right_r v cy21 W hv f1
  rw [show mR cy21 = true by decide +kernel] at c9
  have r1 := fun W => Reads.lit W 9 (tx ex1) 2
  have r3 := fun W => Reads.lit W 9 (tx ex3) 2
  have r7 := fun W => Reads.lit W 9 (tx cy21) 1
  have r8 := fun W => Reads.lit W 9 (tx ex2) 2
  have bA := fun W : World => fun o => (Below.refl W.heap.size W).alloc (Nat.le_refl _) o
  go_enter Tryd.func12, Tryd.ntmps12
  go_wp2_with (go_at_call 20; ((with_reducible refine c1.mono ?_); rintro e w1 ⟨v1, rfl, o1, b1⟩))
  have t1 := ht.below b1 ht.two
  refine (c2 _ (t1.alloc _) _ (r1 w1)).mono ?_
  rintro e w2 ⟨v2, rfl, o2, b2⟩
  have b2' := (bA w1 _).trans (b2.mono (by simp))
  have t2 := t1.below b2' t1.two
  go_wp2_with (fail)
  refine (c3 _ (t2.alloc _) _ (r3 w2)).mono ?_
  rintro e w3 ⟨v3, rfl, o3, b3⟩
  have b3' := (bA w2 _).trans (b3.mono (by simp))
  have t3 := t2.below b3' t2.two
  go_wp2_with (fail)
  refine (c4 _).mono ?_
  rintro e w4 ⟨v4, rfl, o4, b4⟩
  have t4 := t3.below b4 t3.two
  have k1 := ((o1.reads.below b2').below b3').below b4
  go_wp2_with (fail)
  refine (c5 _ t4 _ _ o4.reads k1).mono ?_
  rintro e w5 ⟨v5, rfl, o5, b5⟩
  have t5 := t4.below b5 t4.two
  go_wp2_with (fail)
  refine (c6 _ t5 _ _ (k1.below b5) (o4.reads.below b5)).mono ?_
  rintro e w6 ⟨v6, rfl, o6, b6⟩
  have k6 := (k1.below b5).below b6
  go_wp2_with (fail)
  refine (c7 _ _ _ (k6.below (bA _ _)) (r7 w6)).mono ?_
  rintro e w7 ⟨rfl, b7⟩
  have b7' := (bA w6 _).trans (b7.mono (by simp))
  have k2 := ((((o2.reads.below b3').below b4).below b5).below b6).below b7'
  go_wp2_with (fail)
  refine (c8 _ _ _ (k2.below (bA _ _)) (r8 w7)).mono ?_
  rintro e w8 ⟨rfl, b8⟩
  have b8' := (bA w7 _).trans (b8.mono (by simp))
  have l9 := fun W => (o5.reads).len_run (P := Tryd.prog) Tryd.underlying22 3 W
  go_wp2_with (fail)
  refine (c7 _ _ _ ((o6.reads.below b7').below b8') ((k6.below b7').below b8')).mono ?_
  rintro e w9 ⟨rfl, b9⟩
  go_wp2_with (fail)
  refine (c9 _ _ (((k6.below b7').below b8').below b9)).mono ?_
  rintro e w10 ⟨rfl, rfl⟩
  go_wp2_with (fail)
  go_ret
  exact ⟨rfl, below_c (below_c (below_c (below_c (below_c (below_c (below_c (below_c b1 b2') b3') b4) b5) b6) b7') b8') b9⟩
end Go.Proofs.YtocaboamlagaaaaDoor
