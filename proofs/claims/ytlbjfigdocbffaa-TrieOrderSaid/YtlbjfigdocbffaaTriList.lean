/- trie: what a book says of a tree, as a list by keys (plain Lean). -/
import Derived.Test.YtlbjfigdocbffaaTriClipL
namespace Go.Proofs.Ytlbjfigdocbffaa
open Go.RowKit
set_option linter.unusedVariables false
set_option linter.unusedSimpArgs false

section
variable {α : Type}
/-- The keys from a on, d of them, that have something, with what they have. -/
def lf (F : Nat → Option α) : Nat → Nat → List (Nat × α)
  | _, 0 => []
  | a, d + 1 => (match F a with | none => [] | some s => [(a, s)]) ++ lf F (a + 1) d
theorem lf_none {F : Nat → Option α} {a : Nat} (h : F a = none) (d : Nat) : lf F a (d + 1) = lf F (a + 1) d := by
  show (match F a with | none => [] | some s => [(a, s)]) ++ lf F (a + 1) d = _
  rw [h]; rfl
theorem lf_some {F : Nat → Option α} {a : Nat} {s : α} (h : F a = some s) (d : Nat) : lf F a (d + 1) = (a, s) :: lf F (a + 1) d := by
  show (match F a with | none => [] | some s => [(a, s)]) ++ lf F (a + 1) d = _
  rw [h]; rfl
theorem lf_congr {F F' : Nat → Option α} : ∀ d a, (∀ k, a ≤ k → k < a + d → F k = F' k) → lf F a d = lf F' a d
  | 0, _, _ => rfl
  | d + 1, a, h => by
    have h1 := h a (Nat.le_refl _) (by omega)
    have ih := lf_congr d (a + 1) fun k h2 h3 => h k (by omega) (by omega)
    cases hq : F a with
    | none => rw [lf_none hq, lf_none (h1 ▸ hq), ih]
    | some s => rw [lf_some hq, lf_some (h1 ▸ hq), ih]
theorem lf_len (F : Nat → Option α) : ∀ d a, (lf F a d).length ≤ d
  | 0, _ => Nat.le_refl _
  | d + 1, a => by
    have ih := lf_len F d (a + 1)
    cases hq : F a with
    | none => rw [lf_none hq]; omega
    | some s => rw [lf_some hq, List.length_cons]; omega
theorem lf_ge (F : Nat → Option α) : ∀ d a p, p ∈ lf F a d → a ≤ p.1 ∧ p.1 < a + d ∧ F p.1 = some p.2
  | 0, _, p, h => by cases h
  | d + 1, a, p, h => by
    cases hq : F a with
    | none =>
      rw [lf_none hq] at h
      have := lf_ge F d (a + 1) p h
      exact ⟨by omega, by omega, this.2.2⟩
    | some s =>
      rw [lf_some hq] at h
      rcases List.mem_cons.1 h with rfl | h
      · exact ⟨Nat.le_refl _, by show a < _; omega, hq⟩
      · have := lf_ge F d (a + 1) p h
        exact ⟨by omega, by omega, this.2.2⟩
theorem lf_nil {F : Nat → Option α} : ∀ d a, (∀ k, a ≤ k → k < a + d → F k = none) → lf F a d = []
  | 0, _, _ => rfl
  | d + 1, a, h => by
    rw [lf_none (h a (Nat.le_refl _) (by omega))]
    exact lf_nil d (a + 1) fun k h2 h3 => h k (by omega) (by omega)
theorem lf_map {β : Type} (F : Nat → Option α) (g : α → β) : ∀ d a, lf (fun k => (F k).map g) a d = (lf F a d).map fun p => (p.1, g p.2)
  | 0, _ => rfl
  | d + 1, a => by
    have ih := lf_map F g d (a + 1)
    cases hq : F a with
    | none => rw [lf_none (F := fun k => (F k).map g) (by rw [hq]; rfl), lf_none hq, ih]
    | some s => rw [lf_some (F := fun k => (F k).map g) (s := g s) (by rw [hq]; rfl), lf_some hq, ih]; rfl
theorem lf_range (F : Nat → Option α) : ∀ d a, (List.range' a d).filterMap (fun k => (F k).map fun s => (k, s)) = lf F a d
  | 0, _ => rfl
  | d + 1, a => by
    rw [List.range'_succ, List.filterMap_cons, lf_range F d (a + 1)]
    cases hq : F a with
    | none => rw [lf_none hq]; rfl
    | some s => rw [lf_some hq]; rfl
/-- One more, or one less: what the loop over the list makes of it. -/
def insL (k : Nat) (s : α) : Bool → List (Nat × α) → List (Nat × α)
  | done, [] => if done then [] else [(k, s)]
  | done, p :: l => (if !done && decide (k ≤ p.1) then [(k, s)] else []) ++ (if p.1 = k then [] else [p]) ++ insL k s (done || decide (k ≤ p.1)) l
theorem insL_true (F : Nat → Option α) (k : Nat) (s : α) : ∀ d a, insL k s true (lf F a d) = lf (fun j => if j = k then none else F j) a d
  | 0, _ => rfl
  | d + 1, a => by
    have ih := insL_true F k s d (a + 1)
    cases hq : F a with
    | none => rw [lf_none hq, lf_none (F := fun j => if j = k then none else F j) (by show (if a = k then none else F a) = none; rw [hq]; split <;> rfl), ih]
    | some x =>
      rw [lf_some hq]
      by_cases e : a = k
      · rw [lf_none (F := fun j => if j = k then none else F j) (by show (if a = k then none else F a) = none; rw [if_pos e])]
        show [] ++ (if a = k then [] else [(a, x)]) ++ insL k s true (lf F (a + 1) d) = _
        rw [if_pos e, ih]; rfl
      · rw [lf_some (F := fun j => if j = k then none else F j) (s := x) (by show (if a = k then none else F a) = _; rw [if_neg e, hq])]
        show [] ++ (if a = k then [] else [(a, x)]) ++ insL k s true (lf F (a + 1) d) = _
        rw [if_neg e, ih]; rfl
theorem insL_false (F : Nat → Option α) (k : Nat) (s : α) : ∀ d a, a ≤ k → k < a + d → insL k s false (lf F a d) = lf (fun j => if j = k then some s else F j) a d
  | 0, a, h1, h2 => by omega
  | d + 1, a, h1, h2 => by
    by_cases e : a = k
    · subst e
      have h3 : lf (fun j => if j = a then some s else F j) (a + 1) d = lf F (a + 1) d := lf_congr d (a + 1) fun j h4 _ => if_neg (by omega)
      have h4 : lf (fun j => if j = a then none else F j) (a + 1) d = lf F (a + 1) d := lf_congr d (a + 1) fun j h4 _ => if_neg (by omega)
      rw [lf_some (F := fun j => if j = a then some s else F j) (s := s) (if_pos rfl), h3]
      cases hq : F a with
      | some x =>
        rw [lf_some hq]
        show (if !false && decide (a ≤ a) then [(a, s)] else []) ++ (if a = a then [] else [(a, x)]) ++ insL a s (false || decide (a ≤ a)) (lf F (a + 1) d) = _
        rw [decide_eq_true (Nat.le_refl a), if_pos rfl]
        show [(a, s)] ++ [] ++ insL a s true (lf F (a + 1) d) = _
        rw [insL_true, h4]; rfl
      | none =>
        rw [lf_none hq]
        cases hl : lf F (a + 1) d with
        | nil => rfl
        | cons p l =>
          have hp := lf_ge F d (a + 1) p (by rw [hl]; simp)
          show (if !false && decide (a ≤ p.1) then [(a, s)] else []) ++ (if p.1 = a then [] else [p]) ++ insL a s (false || decide (a ≤ p.1)) l = _
          rw [decide_eq_true (show a ≤ p.1 by omega), if_neg (show ¬ p.1 = a by omega)]
          show [(a, s)] ++ [p] ++ insL a s true l = _
          have := insL_true F a s d (a + 1)
          rw [hl, h4, hl] at this
          have h5 : insL a s true (p :: l) = [] ++ (if p.1 = a then [] else [p]) ++ insL a s true l := rfl
          rw [h5, if_neg (show ¬ p.1 = a by omega)] at this
          have h6 : insL a s true l = l := by
            have : p :: insL a s true l = p :: l := this
            injection this
          rw [h6]; rfl
    · have ih := insL_false F k s d (a + 1) (by omega) (by omega)
      cases hq : F a with
      | none => rw [lf_none hq, lf_none (F := fun j => if j = k then some s else F j) (by show (if a = k then some s else F a) = none; rw [if_neg e, hq]), ih]
      | some x =>
        rw [lf_some hq, lf_some (F := fun j => if j = k then some s else F j) (s := x) (by show (if a = k then some s else F a) = _; rw [if_neg e, hq])]
        show (if !false && decide (k ≤ a) then [(k, s)] else []) ++ (if a = k then [] else [(a, x)]) ++ insL k s (false || decide (k ≤ a)) (lf F (a + 1) d) = _
        rw [decide_eq_false (show ¬ k ≤ a by omega), if_neg e]
        show [] ++ [(a, x)] ++ insL k s false (lf F (a + 1) d) = _
        rw [ih]; rfl
/-- The beginning of the list whose keys are below a size. -/
theorem lf_take (F : Nat → Option α) (size : Nat) : ∀ d a n, n ≤ (lf F a d).length → (∀ j (hj : j < (lf F a d).length), j < n → (lf F a d)[j].1 < size) → (∀ hn : n < (lf F a d).length, size ≤ (lf F a d)[n].1) →
    (lf F a d).take n = lf (fun k => if size ≤ k then none else F k) a d
  | 0, a, n, _, _, _ => by simp [lf]
  | d + 1, a, n, h1, h2, h3 => by
    cases hq : F a with
    | none =>
      have e := lf_none hq d
      have e2 := lf_none (F := fun k => if size ≤ k then none else F k) (a := a) (by show (if size ≤ a then none else F a) = none; rw [hq]; split <;> rfl) d
      rw [e2]
      simp only [e] at h1 h2 h3 ⊢
      exact lf_take F size d (a + 1) n h1 h2 h3
    | some s =>
      have e := lf_some hq d
      simp only [e] at h1 h2 h3 ⊢
      by_cases hs : size ≤ a
      · have hn : n = 0 := by
          apply Classical.byContradiction
          intro hn
          have := h2 0 (by simp) (by omega)
          simp at this
          omega
        subst hn
        rw [List.take_zero]
        symm
        exact lf_nil _ _ fun k h4 _ => if_pos (by omega)
      · rw [lf_some (F := fun k => if size ≤ k then none else F k) (s := s) (by show (if size ≤ a then none else F a) = _; rw [if_neg hs, hq])]
        cases n with
        | zero =>
          have := h3 (by simp)
          simp at this
          omega
        | succ n =>
          rw [List.take_succ_cons]
          congr 1
          refine lf_take F size d (a + 1) n (by simpa using h1) (fun j hj hjn => ?_) (fun hn => ?_)
          · have := h2 (j + 1) (by simpa using hj) (by omega)
            simpa using this
          · have := h3 (by simpa using hn)
            simpa using this
end
/-- What a tree has, by keys. -/
def treeF (e : Nat → Nat → Nat) (T : Nat → ByteArray) (r : Nat) : Nat → Option ByteArray := fun k => if Tri.get e 3 r k = 0 then none else some (T (Tri.get e 3 r k))
def treeL (e : Nat → Nat → Nat) (T : Nat → ByteArray) (r : Nat) : List (Nat × ByteArray) := lf (treeF e T r) 0 4096
theorem treeL_pairs (e : Nat → Nat → Nat) (T : Nat → ByteArray) (r : Nat) : treeL e T r = (pairsL e 3 r 0).map fun p => (p.1, T p.2) := by
  have h1 : pairsL e 3 r 0 = lf (fun k => if Tri.get e 3 r k = 0 then none else some (Tri.get e 3 r k)) 0 4096 := by
    rw [pairsL_range, ← lf_range, List.range_eq_range']
    refine fmap_congr _ fun k _ => ?_
    by_cases z : Tri.get e 3 r k = 0
    · rw [if_pos z, if_pos z]; rfl
    · rw [if_neg z, if_neg z]
      show some (0 * 16 ^ 3 + k, Tri.get e 3 r k) = some (k, Tri.get e 3 r k)
      rw [Nat.zero_mul, Nat.zero_add]
  rw [h1, ← lf_map]
  unfold treeL
  congr 1
  funext k
  unfold treeF
  split <;> rfl
end Go.Proofs.Ytlbjfigdocbffaa
