/- label: three rows made for a box; a list of fields read whole, be it empty. -/
import Derived.Test.YtaopknddpagjeaaDoorLabRead
import Derived.RegionTactic
import Derived.Deep.OwnRows
namespace Go.Proofs.YtaopknddpagjeaaDoor
open Go.RowKit
set_option linter.unusedVariables false
set_option linter.unusedSimpArgs false
open Lb

theorem th_len : ∀ (n : Nat) (t : List Int), t.length = 3 * n → (th0 t).length = n ∧ (th1 t).length = n ∧ (th2 t).length = n
  | 0, t, h => by obtain rfl : t = [] := List.eq_nil_of_length_eq_zero (by omega); exact ⟨rfl, rfl, rfl⟩
  | n + 1, a :: b :: c :: t, h => by
    have := th_len n t (by simp at h; omega)
    simp only [th0, th1, th2, List.length_cons]; omega
  | n + 1, [], h => by simp at h <;> omega
  | n + 1, [_], h => by simp at h <;> omega
  | n + 1, [_, _], h => by simp at h <;> omega
theorem th_get : ∀ (n : Nat) (t : List Int), t.length = 3 * n → ∀ k, k < n → (th0 t).getD k 0 = t.getD (3 * k) 0 ∧ (th1 t).getD k 0 = t.getD (3 * k + 1) 0 ∧ (th2 t).getD k 0 = t.getD (3 * k + 2) 0
  | 0, t, h, k, hk => absurd hk (Nat.not_lt_zero _)
  | n + 1, a :: b :: c :: t, h, 0, hk => ⟨rfl, rfl, rfl⟩
  | n + 1, a :: b :: c :: t, h, k + 1, hk => by
    have := th_get n t (by simp at h; omega) k (by omega)
    rw [show 3 * (k + 1) = 3 * k + 3 by omega]
    simpa [th0, th1, th2] using this
  | n + 1, [], h, _, _ => by simp at h <;> omega
  | n + 1, [_], h, _, _ => by simp at h <;> omega
  | n + 1, [_, _], h, _, _ => by simp at h <;> omega
theorem tW_snoc : ∀ n, tW (n + 1) = tW n ++ [1, 6, 1]
  | 0 => rfl
  | n + 1 => by show 1 :: 6 :: 1 :: tW (n + 1) = (1 :: 6 :: 1 :: tW n) ++ [1, 6, 1]; rw [tW_snoc n]; rfl
theorem tailF_w (sb so bb bo cb co : Nat) : ∀ n, (tailF sb so bb bo cb co n).map (·.2) = (tW n).map fun k : Nat => (k : Int)
  | 0 => rfl
  | n + 1 => by rw [tailF, tW_snoc, List.map_append, List.map_append, tailF_w sb so bb bo cb co n]; rfl
theorem headF_w (p : Nat) : (headF p).map (·.2) = hW.map fun k : Nat => (k : Int) := rfl
def tB (a b c i : Nat) : Nat := if i % 3 = 0 then a else if i % 3 = 1 then b else c
theorem fA_tail (a b c : Nat) : ∀ n i, i < 3 * n → fA (tailF a 0 b 0 c 0 n) i = ⟨tB a b c i, i / 3, none⟩
  | 0, i, h => absurd h (Nat.not_lt_zero _)
  | n + 1, i, h => by
    have hl := tailF_len a 0 b 0 c 0 n
    by_cases hi : i < 3 * n
    · have ih := fA_tail a b c n i hi
      unfold fA at ih ⊢
      rw [tailF, List.getD_eq_getElem?_getD, List.getElem?_append_left (by omega), ← List.getD_eq_getElem?_getD]
      exact ih
    · unfold fA
      rw [tailF, List.getD_eq_getElem?_getD, List.getElem?_append_right (by omega), ← List.getD_eq_getElem?_getD, hl]
      rcases (by omega : i = 3 * n ∨ i = 3 * n + 1 ∨ i = 3 * n + 2) with rfl | rfl | rfl
      · rw [Nat.sub_self]
        have e1 : (3 * n) % 3 = 0 := by omega
        have e2 : 3 * n / 3 = n := by omega
        simp [fld3, tB, e1, e2]
      · rw [show 3 * n + 1 - 3 * n = 1 by omega]
        have e1 : (3 * n + 1) % 3 = 1 := by omega
        have e2 : (3 * n + 1) / 3 = n := by omega
        simp [fld3, tB, e1, e2]
      · rw [show 3 * n + 2 - 3 * n = 2 by omega]
        have e1 : (3 * n + 2) % 3 = 2 := by omega
        have e2 : (3 * n + 2) / 3 = n := by omega
        simp [fld3, tB, e1, e2]
theorem tB_cases (a b c i : Nat) : tB a b c i = a ∨ tB a b c i = b ∨ tB a b c i = c := by
  unfold tB; split
  · exact .inl rfl
  · split
    · exact .inr (.inl rfl)
    · exact .inr (.inr rfl)
theorem tail_ne {a b c : Nat} (h1 : a ≠ b) (h2 : a ≠ c) (h3 : b ≠ c) {n i j : Nat} (hi : i < 3 * n) (hj : j < 3 * n) (hne : i ≠ j) : fA (tailF a 0 b 0 c 0 n) i ≠ fA (tailF a 0 b 0 c 0 n) j := by
  rw [fA_tail a b c n i hi, fA_tail a b c n j hj]
  intro e
  have e1 : tB a b c i = tB a b c j := congrArg Addr.block e
  have e2 : i / 3 = j / 3 := congrArg Addr.off e
  have e3 : i % 3 ≠ j % 3 := by omega
  unfold tB at e1
  rcases (by omega : i % 3 = 0 ∨ i % 3 = 1 ∨ i % 3 = 2) with u | u | u <;> rcases (by omega : j % 3 = 0 ∨ j % 3 = 1 ∨ j % 3 = 2) with v | v | v <;> simp [u, v] at e1 <;> omega
def hO (i : Nat) : Nat := [0, 1, 3, 4, 5, 2].getD i 0
theorem fA_head (p i : Nat) (h : i < 6) : fA (headF p) i = ⟨p, hO i, none⟩ := by
  rcases (by omega : i = 0 ∨ i = 1 ∨ i = 2 ∨ i = 3 ∨ i = 4 ∨ i = 5) with rfl | rfl | rfl | rfl | rfl | rfl <;> rfl
theorem hO_ne {i j : Nat} (hi : i < 6) (hj : j < 6) (h : i ≠ j) : hO i ≠ hO j := by
  rcases (by omega : i = 0 ∨ i = 1 ∨ i = 2 ∨ i = 3 ∨ i = 4 ∨ i = 5) with rfl | rfl | rfl | rfl | rfl | rfl <;> rcases (by omega : j = 0 ∨ j = 1 ∨ j = 2 ∨ j = 3 ∨ j = 4 ∨ j = 5) with rfl | rfl | rfl | rfl | rfl | rfl <;> first | exact absurd rfl h | decide
theorem head_flds {B rb g rp p : Nat} {w : World} (hBp : B ≤ p) (hp : p < w.heap.size) (h1 : p ≠ rb) (h2 : p ≠ g) (h3 : p ≠ rp) (hc : ∀ o, o < 6 → ∃ u, w.cell? ⟨p, o, none⟩ = some (.int .i64 u)) (hf : ∀ o, w.frozen? ⟨p, o, none⟩ = false) : Flds B rb g rp (headF p) w :=
  ⟨fun i hi => ⟨p, hO i, fA_head p i hi, hBp, hp, h1, h2, h3, hc _ (by
      have : i < 6 := hi
      rcases (by omega : i = 0 ∨ i = 1 ∨ i = 2 ∨ i = 3 ∨ i = 4 ∨ i = 5) with rfl | rfl | rfl | rfl | rfl | rfl <;> decide), hf _⟩,
    fun i j hi hj hne e => by
      rw [fA_head p i hi, fA_head p j hj] at e
      exact hO_ne hi hj hne (congrArg Addr.off e)⟩
theorem tail_flds {B rb g rp a b c n : Nat} {w : World} (ha : B ≤ a ∧ a < w.heap.size ∧ a ≠ rb ∧ a ≠ g ∧ a ≠ rp) (hb : B ≤ b ∧ b < w.heap.size ∧ b ≠ rb ∧ b ≠ g ∧ b ≠ rp) (hc : B ≤ c ∧ c < w.heap.size ∧ c ≠ rb ∧ c ≠ g ∧ c ≠ rp) (h1 : a ≠ b) (h2 : a ≠ c) (h3 : b ≠ c)
    (hv : ∀ x, x = a ∨ x = b ∨ x = c → ∀ k, k < n → (∃ u, w.cell? ⟨x, k, none⟩ = some (.int .i64 u)) ∧ w.frozen? ⟨x, k, none⟩ = false) : Flds B rb g rp (tailF a 0 b 0 c 0 n) w :=
  ⟨fun i hi => by
      rw [tailF_len] at hi
      have hx := tB_cases a b c i
      have hall : B ≤ tB a b c i ∧ tB a b c i < w.heap.size ∧ tB a b c i ≠ rb ∧ tB a b c i ≠ g ∧ tB a b c i ≠ rp := by
        rcases hx with e | e | e <;> rw [e] <;> assumption
      have hvv := hv _ hx (i / 3) (by omega)
      exact ⟨tB a b c i, i / 3, fA_tail a b c n i hi, hall.1, hall.2.1, hall.2.2.1, hall.2.2.2.1, hall.2.2.2.2, hvv.1, hvv.2⟩,
    fun i j hi hj hne => by
      rw [tailF_len] at hi hj
      exact tail_ne h1 h2 h3 hi hj hne⟩
open Go.RowKit
set_option linter.unusedVariables false
set_option linter.unusedSimpArgs false
open Lb

def GivesL (w : World) (x : Lbl) (n : Int) (e : Ending) (w' : World) : Prop := ∃ vs vb vc, e = .returned (.tuple #[x.v vs vb vc, .int .i64 n]) ∧ LR w' x vs vb vc ∧ Below w.heap.size w w'
/-- A box whose cells may be written. -/
structure LblBox (w : World) (p : Nat) (x : Lbl) (vs vb vc : Value) : Prop where
  a : LblAt w p x vs vb vc
  f : ∀ o, w.frozen? ⟨p, o, none⟩ = false
theorem LblBox.heap {w w' : World} {p : Nat} {x : Lbl} {vs vb vc : Value} (h : LblBox w p x vs vb vc) (e : w'.heap[p]? = w.heap[p]?) (hs : w.heap.size ≤ w'.heap.size) : LblBox w' p x vs vb vc :=
  ⟨⟨by rw [cell_of_heap e]; exact h.a.c0, by rw [cell_of_heap e]; exact h.a.c1, by rw [cell_of_heap e]; exact h.a.c2, by rw [cell_of_heap e]; exact h.a.c3, by rw [cell_of_heap e]; exact h.a.c4, by rw [cell_of_heap e]; exact h.a.c5, by rw [cell_of_heap e]; exact h.a.c6, by rw [cell_of_heap e]; exact h.a.c7, by rw [cell_of_heap e]; exact h.a.c8, Nat.lt_of_lt_of_le h.a.lt hs⟩, fun o => by rw [frozen_of_heap e]; exact h.f o⟩
theorem LblBox.rd {w w' : World} {b p : Nat} {s : ByteArray} {bad : Bool} {x : Lbl} {vs vb vc : Value} (h : LblBox w p x vs vb vc) (hr : RdTo w b s bad w') (hne : p ≠ b) : LblBox w' p x vs vb vc := h.heap (hr.oth _ h.a.lt hne) hr.size
theorem LblBox.below {w w' : World} {B p : Nat} {x : Lbl} {vs vb vc : Value} (h : LblBox w p x vs vb vc) (hb : Below B w w') (hB : p < B) : LblBox w' p x vs vb vc := h.heap (hb.block _ hB) hb.size
theorem LblBox.made (w : World) (T : TypeId) : LblBox (w.alloc (.cells #[.int .i64 0, .int .i64 0, .int .i64 0, .int .i64 0, .int .i64 0, .int .i64 0, .slice none 0 0, .slice none 0 0, .slice none 0 0] T)) w.heap.size noLbl (.slice none 0 0) (.slice none 0 0) (.slice none 0 0) :=
  ⟨LblAt.made w noLbl (.slice none 0 0) (.slice none 0 0) (.slice none 0 0) T, fun o => frozen_of_row _ _ _ _ _ (heap_alloc_new _ _)⟩
theorem LblBox.wr {B rb k : Nat} {q : RS} {F : List (Addr × Int)} {vals : List Int} {w w' : World} {p : Nat} {x : Lbl} {vs vb vc : Value} (h : LblBox w p x vs vb vc) (hW : Wr B rb q F vals k w w') (hne : p ≠ rb) (ht : ∀ i, i < k → (fA F i).block ≠ p) : LblBox w' p x vs vb vc := by
  have t : ∀ o, w'.cell? ⟨p, o, none⟩ = w.cell? ⟨p, o, none⟩ := fun o => hW.oth p o h.a.lt hne fun i hi e => ht i hi (by rw [e])
  exact ⟨⟨by rw [t]; exact h.a.c0, by rw [t]; exact h.a.c1, by rw [t]; exact h.a.c2, by rw [t]; exact h.a.c3, by rw [t]; exact h.a.c4, by rw [t]; exact h.a.c5, by rw [t]; exact h.a.c6, by rw [t]; exact h.a.c7, by rw [t]; exact h.a.c8, Nat.lt_of_lt_of_le h.a.lt hW.below.size⟩, fun o => by rw [hW.fro p o h.a.lt hne]; exact h.f o⟩
/-- The number cells of a box were read anew; the slices stay. -/
theorem LblBox.read {B rb : Nat} {q : RS} {vals : List Int} {w w' : World} {p : Nat} {x : Lbl} {vs vb vc : Value} (h : LblBox w p x vs vb vc) (hW : Wr B rb q (headF p) vals 6 w w') (hne : p ≠ rb) :
    LblBox w' p ⟨vals.getD 0 0, vals.getD 1 0, vals.getD 5 0, vals.getD 2 0, vals.getD 3 0, vals.getD 4 0, x.st, x.bo, x.cu⟩ vs vb vc := by
  have g := fun i (hi : i < 6) => hW.got i hi
  have t : ∀ o, 6 ≤ o → w'.cell? ⟨p, o, none⟩ = w.cell? ⟨p, o, none⟩ := fun o ho => hW.oth p o h.a.lt hne fun i hi e => by
    rw [fA_head p i hi] at e
    have e2 : hO i = o := congrArg Addr.off e
    rcases (by omega : i = 0 ∨ i = 1 ∨ i = 2 ∨ i = 3 ∨ i = 4 ∨ i = 5) with rfl | rfl | rfl | rfl | rfl | rfl <;> simp [hO] at e2 <;> omega
  refine ⟨⟨?_, ?_, ?_, ?_, ?_, ?_, ?_, ?_, ?_, Nat.lt_of_lt_of_le h.a.lt hW.below.size⟩, fun o => by rw [hW.fro p o h.a.lt hne]; exact h.f o⟩
  · have := g 0 (by decide); rwa [fA_head p 0 (by decide)] at this
  · have := g 1 (by decide); rwa [fA_head p 1 (by decide)] at this
  · have := g 5 (by decide); rwa [fA_head p 5 (by decide)] at this
  · have := g 2 (by decide); rwa [fA_head p 2 (by decide)] at this
  · have := g 3 (by decide); rwa [fA_head p 3 (by decide)] at this
  · have := g 4 (by decide); rwa [fA_head p 4 (by decide)] at this
  · rw [t 6 (by omega)]; exact h.a.c6
  · rw [t 7 (by omega)]; exact h.a.c7
  · rw [t 8 (by omega)]; exact h.a.c8
/-- A whole label stored in a box. -/
def setL (w : World) (p : Nat) (y : Lbl) (us ub uc : Value) : World := (((((((((w.setCell ⟨p, 0, none⟩ (.int .i64 y.i)).setCell ⟨p, 1, none⟩ (.int .i64 y.s)).setCell ⟨p, 2, none⟩ (.int .i64 y.g)).setCell ⟨p, 3, none⟩ (.int .i64 y.k)).setCell ⟨p, 4, none⟩ (.int .i64 y.m)).setCell ⟨p, 5, none⟩ (.int .i64 y.b)).setCell ⟨p, 6, none⟩ (us)).setCell ⟨p, 7, none⟩ (ub)).setCell ⟨p, 8, none⟩ (uc))
theorem LblBox.put {w : World} {p : Nat} {x : Lbl} {vs vb vc : Value} (h : LblBox w p x vs vb vc) (y : Lbl) (us ub uc : Value) : LblBox (setL w p y us ub uc) p y us ub uc := by
  unfold setL
  refine ⟨⟨?_, ?_, ?_, ?_, ?_, ?_, ?_, ?_, ?_, ?_⟩, fun o => by simp only [World.frozen?_setCell]; exact h.f o⟩
  · rw [World.cell?_setCell_other _ ⟨p, 8, none⟩ ⟨p, 0, none⟩ _ (by simp), World.cell?_setCell_other _ ⟨p, 7, none⟩ ⟨p, 0, none⟩ _ (by simp), World.cell?_setCell_other _ ⟨p, 6, none⟩ ⟨p, 0, none⟩ _ (by simp), World.cell?_setCell_other _ ⟨p, 5, none⟩ ⟨p, 0, none⟩ _ (by simp), World.cell?_setCell_other _ ⟨p, 4, none⟩ ⟨p, 0, none⟩ _ (by simp), World.cell?_setCell_other _ ⟨p, 3, none⟩ ⟨p, 0, none⟩ _ (by simp), World.cell?_setCell_other _ ⟨p, 2, none⟩ ⟨p, 0, none⟩ _ (by simp), World.cell?_setCell_other _ ⟨p, 1, none⟩ ⟨p, 0, none⟩ _ (by simp)]
    exact World.cell?_setCell_same' _ _ _ (by rw [h.a.c0]; rfl)
  · rw [World.cell?_setCell_other _ ⟨p, 8, none⟩ ⟨p, 1, none⟩ _ (by simp), World.cell?_setCell_other _ ⟨p, 7, none⟩ ⟨p, 1, none⟩ _ (by simp), World.cell?_setCell_other _ ⟨p, 6, none⟩ ⟨p, 1, none⟩ _ (by simp), World.cell?_setCell_other _ ⟨p, 5, none⟩ ⟨p, 1, none⟩ _ (by simp), World.cell?_setCell_other _ ⟨p, 4, none⟩ ⟨p, 1, none⟩ _ (by simp), World.cell?_setCell_other _ ⟨p, 3, none⟩ ⟨p, 1, none⟩ _ (by simp), World.cell?_setCell_other _ ⟨p, 2, none⟩ ⟨p, 1, none⟩ _ (by simp)]
    exact World.cell?_setCell_same' _ _ _ (by rw [World.cell?_setCell_other _ ⟨p, 0, none⟩ ⟨p, 1, none⟩ _ (by simp), h.a.c1]; rfl)
  · rw [World.cell?_setCell_other _ ⟨p, 8, none⟩ ⟨p, 2, none⟩ _ (by simp), World.cell?_setCell_other _ ⟨p, 7, none⟩ ⟨p, 2, none⟩ _ (by simp), World.cell?_setCell_other _ ⟨p, 6, none⟩ ⟨p, 2, none⟩ _ (by simp), World.cell?_setCell_other _ ⟨p, 5, none⟩ ⟨p, 2, none⟩ _ (by simp), World.cell?_setCell_other _ ⟨p, 4, none⟩ ⟨p, 2, none⟩ _ (by simp), World.cell?_setCell_other _ ⟨p, 3, none⟩ ⟨p, 2, none⟩ _ (by simp)]
    exact World.cell?_setCell_same' _ _ _ (by rw [World.cell?_setCell_other _ ⟨p, 1, none⟩ ⟨p, 2, none⟩ _ (by simp), World.cell?_setCell_other _ ⟨p, 0, none⟩ ⟨p, 2, none⟩ _ (by simp), h.a.c2]; rfl)
  · rw [World.cell?_setCell_other _ ⟨p, 8, none⟩ ⟨p, 3, none⟩ _ (by simp), World.cell?_setCell_other _ ⟨p, 7, none⟩ ⟨p, 3, none⟩ _ (by simp), World.cell?_setCell_other _ ⟨p, 6, none⟩ ⟨p, 3, none⟩ _ (by simp), World.cell?_setCell_other _ ⟨p, 5, none⟩ ⟨p, 3, none⟩ _ (by simp), World.cell?_setCell_other _ ⟨p, 4, none⟩ ⟨p, 3, none⟩ _ (by simp)]
    exact World.cell?_setCell_same' _ _ _ (by rw [World.cell?_setCell_other _ ⟨p, 2, none⟩ ⟨p, 3, none⟩ _ (by simp), World.cell?_setCell_other _ ⟨p, 1, none⟩ ⟨p, 3, none⟩ _ (by simp), World.cell?_setCell_other _ ⟨p, 0, none⟩ ⟨p, 3, none⟩ _ (by simp), h.a.c3]; rfl)
  · rw [World.cell?_setCell_other _ ⟨p, 8, none⟩ ⟨p, 4, none⟩ _ (by simp), World.cell?_setCell_other _ ⟨p, 7, none⟩ ⟨p, 4, none⟩ _ (by simp), World.cell?_setCell_other _ ⟨p, 6, none⟩ ⟨p, 4, none⟩ _ (by simp), World.cell?_setCell_other _ ⟨p, 5, none⟩ ⟨p, 4, none⟩ _ (by simp)]
    exact World.cell?_setCell_same' _ _ _ (by rw [World.cell?_setCell_other _ ⟨p, 3, none⟩ ⟨p, 4, none⟩ _ (by simp), World.cell?_setCell_other _ ⟨p, 2, none⟩ ⟨p, 4, none⟩ _ (by simp), World.cell?_setCell_other _ ⟨p, 1, none⟩ ⟨p, 4, none⟩ _ (by simp), World.cell?_setCell_other _ ⟨p, 0, none⟩ ⟨p, 4, none⟩ _ (by simp), h.a.c4]; rfl)
  · rw [World.cell?_setCell_other _ ⟨p, 8, none⟩ ⟨p, 5, none⟩ _ (by simp), World.cell?_setCell_other _ ⟨p, 7, none⟩ ⟨p, 5, none⟩ _ (by simp), World.cell?_setCell_other _ ⟨p, 6, none⟩ ⟨p, 5, none⟩ _ (by simp)]
    exact World.cell?_setCell_same' _ _ _ (by rw [World.cell?_setCell_other _ ⟨p, 4, none⟩ ⟨p, 5, none⟩ _ (by simp), World.cell?_setCell_other _ ⟨p, 3, none⟩ ⟨p, 5, none⟩ _ (by simp), World.cell?_setCell_other _ ⟨p, 2, none⟩ ⟨p, 5, none⟩ _ (by simp), World.cell?_setCell_other _ ⟨p, 1, none⟩ ⟨p, 5, none⟩ _ (by simp), World.cell?_setCell_other _ ⟨p, 0, none⟩ ⟨p, 5, none⟩ _ (by simp), h.a.c5]; rfl)
  · rw [World.cell?_setCell_other _ ⟨p, 8, none⟩ ⟨p, 6, none⟩ _ (by simp), World.cell?_setCell_other _ ⟨p, 7, none⟩ ⟨p, 6, none⟩ _ (by simp)]
    exact World.cell?_setCell_same' _ _ _ (by rw [World.cell?_setCell_other _ ⟨p, 5, none⟩ ⟨p, 6, none⟩ _ (by simp), World.cell?_setCell_other _ ⟨p, 4, none⟩ ⟨p, 6, none⟩ _ (by simp), World.cell?_setCell_other _ ⟨p, 3, none⟩ ⟨p, 6, none⟩ _ (by simp), World.cell?_setCell_other _ ⟨p, 2, none⟩ ⟨p, 6, none⟩ _ (by simp), World.cell?_setCell_other _ ⟨p, 1, none⟩ ⟨p, 6, none⟩ _ (by simp), World.cell?_setCell_other _ ⟨p, 0, none⟩ ⟨p, 6, none⟩ _ (by simp), h.a.c6]; rfl)
  · rw [World.cell?_setCell_other _ ⟨p, 8, none⟩ ⟨p, 7, none⟩ _ (by simp)]
    exact World.cell?_setCell_same' _ _ _ (by rw [World.cell?_setCell_other _ ⟨p, 6, none⟩ ⟨p, 7, none⟩ _ (by simp), World.cell?_setCell_other _ ⟨p, 5, none⟩ ⟨p, 7, none⟩ _ (by simp), World.cell?_setCell_other _ ⟨p, 4, none⟩ ⟨p, 7, none⟩ _ (by simp), World.cell?_setCell_other _ ⟨p, 3, none⟩ ⟨p, 7, none⟩ _ (by simp), World.cell?_setCell_other _ ⟨p, 2, none⟩ ⟨p, 7, none⟩ _ (by simp), World.cell?_setCell_other _ ⟨p, 1, none⟩ ⟨p, 7, none⟩ _ (by simp), World.cell?_setCell_other _ ⟨p, 0, none⟩ ⟨p, 7, none⟩ _ (by simp), h.a.c7]; rfl)
  · exact World.cell?_setCell_same' _ _ _ (by rw [World.cell?_setCell_other _ ⟨p, 7, none⟩ ⟨p, 8, none⟩ _ (by simp), World.cell?_setCell_other _ ⟨p, 6, none⟩ ⟨p, 8, none⟩ _ (by simp), World.cell?_setCell_other _ ⟨p, 5, none⟩ ⟨p, 8, none⟩ _ (by simp), World.cell?_setCell_other _ ⟨p, 4, none⟩ ⟨p, 8, none⟩ _ (by simp), World.cell?_setCell_other _ ⟨p, 3, none⟩ ⟨p, 8, none⟩ _ (by simp), World.cell?_setCell_other _ ⟨p, 2, none⟩ ⟨p, 8, none⟩ _ (by simp), World.cell?_setCell_other _ ⟨p, 1, none⟩ ⟨p, 8, none⟩ _ (by simp), World.cell?_setCell_other _ ⟨p, 0, none⟩ ⟨p, 8, none⟩ _ (by simp), h.a.c8]; rfl)
  · simpa using h.a.lt
theorem setL_below {B : Nat} {a w : World} (h : Below B a w) {p : Nat} (hp : B ≤ p) (y : Lbl) (us ub uc : Value) : Below B a (setL w p y us ub uc) :=
  ((((((((h.setCell (p := ⟨p, 0, none⟩) hp _).setCell (p := ⟨p, 1, none⟩) hp _).setCell (p := ⟨p, 2, none⟩) hp _).setCell (p := ⟨p, 3, none⟩) hp _).setCell (p := ⟨p, 4, none⟩) hp _).setCell (p := ⟨p, 5, none⟩) hp _).setCell (p := ⟨p, 6, none⟩) hp _).setCell (p := ⟨p, 7, none⟩) hp _).setCell (p := ⟨p, 8, none⟩) hp _
theorem res_get {tm : Array Value} {W : World} {b : Nat} {x : Lbl} {vs vb vc : Value} {n : Int} (h : LblBox W b x vs vb vc) (h2 : tm.getD 2 undef = .pointer (some ⟨b, 0, none⟩)) (h3 : tm.getD 3 undef = .int .i64 n) :
    (results Tryd.f13 tm).run Tryd.prog W = .ok (.tuple #[x.v vs vb vc, .int .i64 n]) W := by
  have h2' : tm[2]?.getD undef = .pointer (some ⟨b, 0, none⟩) := by simpa using h2
  have h3' : tm[3]?.getD undef = .int .i64 n := by simpa using h3
  simp [results, Tryd.results13, go_sem, h2', h3', h.a.c0, h.a.c1, h.a.c2, h.a.c3, h.a.c4, h.a.c5, h.a.c6, h.a.c7, h.a.c8, Lbl.v]
theorem word_eq (s : ByteArray) : ((rTxt ⟨s, false⟩ 4).toList == [83, 84, 86, 49]) = decide (word s = Lb.mark) := by
  rw [show ([83, 84, 86, 49] : List UInt8) = Lb.mark.data.toList from rfl, Lib.toList_data, Bool.eq_iff_iff, beq_iff_eq, decide_eq_true_eq]
  exact ⟨fun h => Go.WideShapes.bytes_inj h, fun h => by rw [show rTxt ⟨s, false⟩ 4 = word s from rfl, h]⟩
open Go.RowKit
set_option linter.unusedVariables false
set_option linter.unusedSimpArgs false
open Lb

theorem Tryd.infoI : (Tryd.prog.info? 3).map (fun i => (i.zero, i.size, i.bytes)) = some (some (.int .i64 0), 1, 8) := by kernel_rfl
def sl (a n : Nat) : Value := .slice (some ⟨a, 0, none⟩) n n
def nO (n : Nat) : Obj := .cells (madeCells #[.int .i64 0] n) 3
/-- Three new rows, and a box that holds them. -/
def W3 (w : World) (p n a b c : Nat) : World := (((((w.setCell ⟨p, 6, none⟩ (sl a n)).setCell ⟨p, 7, none⟩ (sl b n)).setCell ⟨p, 8, none⟩ (sl c n)).alloc (nO n)).alloc (nO n)).alloc (nO n)
structure Got3 (w W : World) (p n a b c : Nat) (x : Lbl) : Prop where
  box : LblBox W p x (sl a n) (sl b n) (sl c n)
  rows : ∀ q, q = a ∨ q = b ∨ q = c → q < W.heap.size ∧ w.heap.size ≤ q ∧ ∀ k, k < n → (∃ u, W.cell? ⟨q, k, none⟩ = some (.int .i64 u)) ∧ W.frozen? ⟨q, k, none⟩ = false
  oth : ∀ k, k < w.heap.size → k ≠ p → W.heap[k]? = w.heap[k]?
  below : Below p w W
  size : W.heap.size = w.heap.size + 3
theorem got3 {w : World} {p n a b c : Nat} {x : Lbl} {vs vb vc : Value} (h : LblBox w p x vs vb vc) (ha : w.heap.size ≤ a ∧ a < w.heap.size + 3) (hb : w.heap.size ≤ b ∧ b < w.heap.size + 3) (hc : w.heap.size ≤ c ∧ c < w.heap.size + 3) :
    Got3 w (W3 w p n a b c).drew p n a b c x := by
  have hp := h.a.lt
  have hs : (((w.setCell ⟨p, 6, none⟩ (sl a n)).setCell ⟨p, 7, none⟩ (sl b n)).setCell ⟨p, 8, none⟩ (sl c n)).heap.size = w.heap.size := by simp
  have hbox : LblBox (((w.setCell ⟨p, 6, none⟩ (sl a n)).setCell ⟨p, 7, none⟩ (sl b n)).setCell ⟨p, 8, none⟩ (sl c n)) p x (sl a n) (sl b n) (sl c n) := by
    have o : ∀ o, o ≠ 6 → o ≠ 7 → o ≠ 8 → (((w.setCell ⟨p, 6, none⟩ (sl a n)).setCell ⟨p, 7, none⟩ (sl b n)).setCell ⟨p, 8, none⟩ (sl c n)).cell? ⟨p, o, none⟩ = w.cell? ⟨p, o, none⟩ := fun o h6 h7 h8 => by
      rw [World.cell?_setCell_other _ _ _ _ (fun e => h8 (congrArg Addr.off e).symm), World.cell?_setCell_other _ _ _ _ (fun e => h7 (congrArg Addr.off e).symm), World.cell?_setCell_other _ _ _ _ (fun e => h6 (congrArg Addr.off e).symm)]
    refine ⟨⟨?_, ?_, ?_, ?_, ?_, ?_, ?_, ?_, ?_, by rw [hs]; exact hp⟩, fun o => by simp only [World.frozen?_setCell]; exact h.f o⟩
    · rw [o 0 (by omega) (by omega) (by omega)]; exact h.a.c0
    · rw [o 1 (by omega) (by omega) (by omega)]; exact h.a.c1
    · rw [o 2 (by omega) (by omega) (by omega)]; exact h.a.c2
    · rw [o 3 (by omega) (by omega) (by omega)]; exact h.a.c3
    · rw [o 4 (by omega) (by omega) (by omega)]; exact h.a.c4
    · rw [o 5 (by omega) (by omega) (by omega)]; exact h.a.c5
    · rw [World.cell?_setCell_other _ _ _ _ (by simp), World.cell?_setCell_other _ _ _ _ (by simp)]
      exact World.cell?_setCell_same' _ _ _ (by rw [h.a.c6]; rfl)
    · rw [World.cell?_setCell_other _ _ _ _ (by simp)]
      exact World.cell?_setCell_same' _ _ _ (by rw [World.cell?_setCell_other _ _ _ _ (by simp), h.a.c7]; rfl)
    · exact World.cell?_setCell_same' _ _ _ (by rw [World.cell?_setCell_other _ _ _ _ (by simp), World.cell?_setCell_other _ _ _ _ (by simp), h.a.c8]; rfl)
  have hoth : ∀ k, k ≠ p → (((w.setCell ⟨p, 6, none⟩ (sl a n)).setCell ⟨p, 7, none⟩ (sl b n)).setCell ⟨p, 8, none⟩ (sl c n)).heap[k]? = w.heap[k]? := fun k hk => by
    rw [Below.heap_setCell _ _ _ _ hk, Below.heap_setCell _ _ _ _ hk, Below.heap_setCell _ _ _ _ hk]
  have hbel : Below p w (((w.setCell ⟨p, 6, none⟩ (sl a n)).setCell ⟨p, 7, none⟩ (sl b n)).setCell ⟨p, 8, none⟩ (sl c n)) := (((Below.refl _ _).setCell (p := ⟨p, 6, none⟩) (Nat.le_refl _) _).setCell (p := ⟨p, 7, none⟩) (Nat.le_refl _) _).setCell (p := ⟨p, 8, none⟩) (Nat.le_refl _) _
  unfold W3
  generalize ((w.setCell ⟨p, 6, none⟩ (sl a n)).setCell ⟨p, 7, none⟩ (sl b n)).setCell ⟨p, 8, none⟩ (sl c n) = w1 at *
  have hz : Below w1.heap.size w1 (((w1.alloc (nO n)).alloc (nO n)).alloc (nO n)).drew := (((((Below.refl w1.heap.size w1).alloc (Nat.le_refl _) _).alloc (by simp) _).alloc (by simp; omega) _)).drew
  have hsz : (((w1.alloc (nO n)).alloc (nO n)).alloc (nO n)).drew.heap.size = w.heap.size + 3 := by rw [← hs]; simp
  have hnew : ∀ q, w.heap.size ≤ q → q < w.heap.size + 3 → (((w1.alloc (nO n)).alloc (nO n)).alloc (nO n)).drew.heap[q]? = some (nO n) := fun q h1 h2 => by
    show (((w1.alloc (nO n)).alloc (nO n)).alloc (nO n)).heap[q]? = _
    rcases (by omega : q = w1.heap.size ∨ q = w1.heap.size + 1 ∨ q = w1.heap.size + 2) with rfl | rfl | rfl
    · rw [Below.heap_alloc _ _ _ (by simp; omega), Below.heap_alloc _ _ _ (by simp)]; exact heap_alloc_new _ _
    · rw [Below.heap_alloc _ _ _ (by simp)]
      have := heap_alloc_new (w1.alloc (nO n)) (nO n); simpa using this
    · have := heap_alloc_new ((w1.alloc (nO n)).alloc (nO n)) (nO n); simpa using this
  refine ⟨hbox.below hz hbox.a.lt, fun q hq => ?_, fun k hk hne => ?_, hbel.trans (hz.mono (by omega)), hsz⟩
  · have hr : w.heap.size ≤ q ∧ q < w.heap.size + 3 := by rcases hq with rfl | rfl | rfl <;> assumption
    refine ⟨by rw [hsz]; exact hr.2, hr.1, fun k hk => ?_⟩
    have e := hnew q hr.1 hr.2
    refine ⟨⟨0, ?_⟩, ?_⟩
    · clear hz hsz hnew
      generalize (((w1.alloc (nO n)).alloc (nO n)).alloc (nO n)).drew = W at *
      simp only [World.cell?, e, nO]
      simp [madeCells, hk, Nat.mod_one]
    · exact frozen_of_row _ _ _ _ _ e
  · rw [hz.block k (by omega)]; exact hoth k hne
/-- What the three rows read as behind the reading. -/
theorem tail_reads {W : World} {a b c n : Nat} {t : List Int} (hl : t.length = 3 * n) (ha : a < W.heap.size) (hb : b < W.heap.size) (hc : c < W.heap.size)
    (hg : ∀ i, i < 3 * n → W.cell? (fA (tailF a 0 b 0 c 0 n) i) = some (.int .i64 (t.getD i 0))) :
    Reads W (sl a n) ((th0 t).map (.int .i64)) ∧ Reads W (sl b n) ((th1 t).map (.int .i64)) ∧ Reads W (sl c n) ((th2 t).map (.int .i64)) := by
  obtain ⟨l0, l1, l2⟩ := th_len n t hl
  have hk := th_get n t hl
  have one : ∀ (q : Nat) (l : List Int), q < W.heap.size → l.length = n → (∀ k, k < n → W.cell? ⟨q, k, none⟩ = some (.int .i64 (l.getD k 0))) → Reads W (sl q n) (l.map (.int .i64)) := fun q l hq hln hcc => by
    refine .inr ⟨q, 0, n, by rw [List.length_map, hln]; rfl, hq, fun i hi => ?_⟩
    rw [List.length_map] at hi
    rw [Nat.zero_add, hcc i (by omega)]
    simp [List.getD_eq_getElem?_getD, hi]
  refine ⟨one a _ ha l0 fun k hkn => ?_, one b _ hb l1 fun k hkn => ?_, one c _ hc l2 fun k hkn => ?_⟩
  · have := hg (3 * k) (by omega)
    rw [fA_tail a b c n _ (by omega), tB, if_pos (by omega), show 3 * k / 3 = k by omega] at this
    rw [this, (hk k hkn).1]
  · have := hg (3 * k + 1) (by omega)
    rw [fA_tail a b c n _ (by omega), tB, if_neg (by omega), if_pos (by omega), show (3 * k + 1) / 3 = k by omega] at this
    rw [this, (hk k hkn).2.1]
  · have := hg (3 * k + 2) (by omega)
    rw [fA_tail a b c n _ (by omega), tB, if_neg (by omega), if_neg (by omega), show (3 * k + 2) / 3 = k by omega] at this
    rw [this, (hk k hkn).2.2]
theorem setL_heap (w : World) (p : Nat) (y : Lbl) (us ub uc : Value) (k : Nat) (hk : k ≠ p) : (setL w p y us ub uc).heap[k]? = w.heap[k]? := by
  unfold setL
  rw [Below.heap_setCell _ _ _ _ hk, Below.heap_setCell _ _ _ _ hk, Below.heap_setCell _ _ _ _ hk, Below.heap_setCell _ _ _ _ hk, Below.heap_setCell _ _ _ _ hk, Below.heap_setCell _ _ _ _ hk, Below.heap_setCell _ _ _ _ hk, Below.heap_setCell _ _ _ _ hk, Below.heap_setCell _ _ _ _ hk]
theorem setL_size (w : World) (p : Nat) (y : Lbl) (us ub uc : Value) : (setL w p y us ub uc).heap.size = w.heap.size := by unfold setL; simp
theorem reads_sl {w w' : World} {a n : Nat} {xs : List Value} (h : Reads w (sl a n) xs) (e : w'.heap[a]? = w.heap[a]?) (hs : w.heap.size ≤ w'.heap.size) : Reads w' (sl a n) xs := by
  rcases h with h | ⟨b, off, cap, h1, h2, h3⟩
  · exact .inl h
  · have e1 : a = b ∧ 0 = off := by simp [sl] at h1; exact ⟨h1.1.1, h1.1.2⟩
    obtain ⟨rfl, rfl⟩ := e1
    exact .inr ⟨a, 0, cap, h1, by omega, fun i hi => by rw [cell_of_heap e]; exact h3 i hi⟩
theorem LR.setL {w : World} {x : Lbl} {a b c n : Nat} (h : LR w x (sl a n) (sl b n) (sl c n)) {p : Nat} (ha : a ≠ p) (hb : b ≠ p) (hc : c ≠ p) (y : Lbl) (us ub uc : Value) : LR (setL w p y us ub uc) x (sl a n) (sl b n) (sl c n) :=
  ⟨reads_sl h.s (setL_heap _ _ _ _ _ _ _ ha) (Nat.le_of_eq (setL_size _ _ _ _ _ _).symm), reads_sl h.b (setL_heap _ _ _ _ _ _ _ hb) (Nat.le_of_eq (setL_size _ _ _ _ _ _).symm), reads_sl h.c (setL_heap _ _ _ _ _ _ _ hc) (Nat.le_of_eq (setL_size _ _ _ _ _ _).symm), h.ls, h.lb, h.lc⟩
set_option maxRecDepth 100000 in
set_option maxHeartbeats 8000000 in
theorem read_none (B cap rp rb : Nat) (a : Option Addr) (q : RS) (F : List (Addr × Int)) (vals : List Int) (w : World) (hR : RdAt w rb q.s q.b) :
    Calls Tryd.prog 34 #[.slice a 0 cap, .pointer (some ⟨rp, 0, none⟩)] w fun e w' => e = .returned (.tuple #[]) ∧ Wr B rb q F vals 0 w w' := by
  have h0 : Hid (Wr B rb q F vals 0 w w) := Lib.hid ⟨Below.refl _ _, fun i hi => absurd hi (Nat.not_lt_zero _), fun _ _ _ _ _ => rfl, fun _ _ _ _ => rfl, hR⟩
  clear hR
  go_enter Tryd.func34, Tryd.ntmps34
  go_wp2_with (fail)
  go_loop [7] (fun t => t = .int .i64 0) (fun t => 0)
  case atStart => rfl
  case round =>
    subst hrel
    go_wp2_with (fail)
    go_end0
    exact ⟨rfl, h0.out⟩
/-- All that tail lists, read. -/
theorem read_tail (p0 a b c rp rb n : Nat) (q : RS) (v : Value) (w : World) (hO : OwnE fieldE w p0 61 v (tailF a 0 b 0 c 0 n)) (hr : ∀ k, v.ownBlock = some k → k ≠ rb ∧ k ≠ rp ∧ k ≠ a ∧ k ≠ b ∧ k ≠ c)
    (hp : w.cell? ⟨rp, 0, none⟩ = some (.pointer (some ⟨rb, 0, none⟩))) (hpl : rp < w.heap.size) (hpr : rp ≠ rb) (hR : RdAt w rb q.s q.b) (hs : q.s.size ≤ 140737488355328) (hn : n ≤ 7) (hB : p0 ≤ w.heap.size) (hBr : p0 ≤ rb)
    (hne : a ≠ b ∧ a ≠ c ∧ b ≠ c) (hx : ∀ x, x = a ∨ x = b ∨ x = c → p0 ≤ x ∧ x < w.heap.size ∧ x ≠ rb ∧ x ≠ rp ∧ ∀ k, k < n → (∃ u, w.cell? ⟨x, k, none⟩ = some (.int .i64 u)) ∧ w.frozen? ⟨x, k, none⟩ = false) :
    Calls Tryd.prog 34 #[v, .pointer (some ⟨rp, 0, none⟩)] w fun e w' => e = .returned (.tuple #[]) ∧ Wr p0 rb (rListR (tW n) q) (tailF a 0 b 0 c 0 n) (rList (tW n) q) (3 * n) w w' := by
  have hlen := tailF_len a 0 b 0 c 0 n
  rcases Nat.eq_zero_or_pos n with rfl | hpos
  · rcases hO.forms with ⟨rfl, _⟩ | ⟨g, cap, rfl, _⟩
    · exact read_none p0 0 rp rb none q _ _ w hR
    · exact read_none p0 cap rp rb _ q _ _ w hR
  · obtain ⟨g, cap, rfl, hg1, hg2⟩ := hO.form (by omega)
    obtain ⟨g1, g2, g3, g4, g5⟩ := hr g rfl
    have := read_any p0 g cap rp rb (tailF a 0 b 0 c 0 n) (tW n) q w hO.reads hg2 g1 hp hpl hpr hR hs
      (tail_flds ⟨(hx a (.inl rfl)).1, (hx a (.inl rfl)).2.1, (hx a (.inl rfl)).2.2.1, Ne.symm g3, (hx a (.inl rfl)).2.2.2.1⟩ ⟨(hx b (.inr (.inl rfl))).1, (hx b (.inr (.inl rfl))).2.1, (hx b (.inr (.inl rfl))).2.2.1, Ne.symm g4, (hx b (.inr (.inl rfl))).2.2.2.1⟩ ⟨(hx c (.inr (.inr rfl))).1, (hx c (.inr (.inr rfl))).2.1, (hx c (.inr (.inr rfl))).2.2.1, Ne.symm g5, (hx c (.inr (.inr rfl))).2.2.2.1⟩ hne.1 hne.2.1 hne.2.2
        (fun x hxx => (hx x hxx).2.2.2.2)) (tailF_w a 0 b 0 c 0 n) (by omega) hB hBr
    rwa [hlen] at this ⊢
end Go.Proofs.YtaopknddpagjeaaDoor
