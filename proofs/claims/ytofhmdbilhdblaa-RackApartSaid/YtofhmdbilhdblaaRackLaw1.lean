/- rack: RackOnce. -/
import Derived.Test.YtofhmdbilhdblaaRackRows
import Derived.Test.YtofhmdbilhdblaaClsTail
namespace Go.Proofs.Ytofhmdbilhdblaa
open Go.RowKit
set_option linter.unusedVariables false
set_option linter.unusedSimpArgs false
set_option maxRecDepth 100000

/-- Members that live. -/
def GoodM (M : Nat → Mst) (n s c : Nat) : Prop := ∀ i, i < n → ∃ L V, M i = ⟨false, L, V⟩ ∧ L.length = s ∧ ∀ z, (V z).length ≤ c
theorem GoodM.write {M : Nat → Mst} {n s c : Nat} (h : GoodM M n s c) (d : Nat) {L : List ByteArray} {V : Int → List ByteArray} (hL : L.length = s) (hV : ∀ z, (V z).length ≤ c) (a : Int) (t : ByteArray) : GoodM (upd M d ⟨false, L, updZ V a (V a ++ [t])⟩) n s (c + 1) := fun i hi => by
  by_cases e : i = d
  · subst e
    exact ⟨L, _, upd_same _ _ _, hL, updV9_le hV a t⟩
  · obtain ⟨L', V', h1, h2, h3⟩ := h i hi
    exact ⟨L', V', by rw [upd_other _ _ _ _ e]; exact h1, h2, fun z => by have := h3 z; omega⟩
theorem GoodM.mono {M : Nat → Mst} {n s c d : Nat} (h : GoodM M n s c) (hd : c ≤ d) : GoodM M n s d := fun i hi => by
  obtain ⟨L, V, h1, h2, h3⟩ := h i hi
  exact ⟨L, V, h1, h2, fun z => by have := h3 z; omega⟩
theorem GoodM.start (n s c : Nat) : GoodM (blankM s) n s c := fun i hi => ⟨_, _, rfl, by simp, fun z => by simp [noV]⟩
/-- Where crashes leave good members. -/
def liveM (C : Nat → List ByteArray) : Nat → Mst := fun i => ⟨false, C i, noV⟩
theorem GoodM.crash {M : Nat → Mst} {n s c : Nat} (h : GoodM M n s c) (l : List (Value × List Int)) : ∃ C, (∀ i, i < n → crashM (M i) (chs l i) = liveM C i) ∧ ∀ i, i < n → (C i).length = s :=
  ⟨fun i => (crashM (M i) (chs l i)).L, fun i hi => by
    obtain ⟨L, V, h1, _, _⟩ := h i hi
    show crashM (M i) (chs l i) = ⟨false, (crashM (M i) (chs l i)).L, noV⟩
    rw [h1]; rfl, fun i hi => by
    obtain ⟨L, V, h1, h2, _⟩ := h i hi
    show (crashM (M i) (chs l i)).L.length = s
    rw [h1]; exact (crashN_len _ _ _).trans h2⟩
theorem live_crash (C : Nat → List ByteArray) (l : List (Value × List Int)) (i : Nat) : crashM (liveM C i) (chs l i) = liveM C i := by
  unfold crashM liveM; rw [crashN]
theorem nxt0 : nxt 0 = 0 := if_pos rfl
theorem live_congr {f g : Nat → List ByteArray} {i : Nat} (h : f i = g i) : liveM f i = liveM g i := by unfold liveM; rw [h]
/-- As far as j the first sectors are written anew. -/
def stepC (C : Nat → List ByteArray) (j : Nat) : Nat → List ByteArray := fun i => if i < j then (C i).set 0 (sec (i : Int)) else C i
theorem stepC_lt (C : Nat → List ByteArray) {i j : Nat} (h : i < j) : stepC C j i = (C i).set 0 (sec (i : Int)) := if_pos h
theorem stepC_ge (C : Nat → List ByteArray) {i j : Nat} (h : ¬ i < j) : stepC C j i = C i := if_neg h
theorem slice_tail1 (x : Nat) (W : World) : (Instr.slice 47 (.slice (some ⟨x, 0, none⟩) 5 5) (some (.int .i64 1)) none none).run Try.prog W = .ok (.slice (some ⟨x, 1, none⟩) 4 4) W := by
  obtain ⟨si, s1, s2, s3, s4⟩ := str_is9
  simp [Instr.slice, run_underlying Try.underlying47, Instr.sliceBounds, Instr.sliceBound, asIntOf, sizeOf, typeInfo, s1, s3, Addr.add]
theorem Own.tail1 {w : World} {B x : Nat} {l : List ByteArray} (h : Own w B 9 (.slice (some ⟨x, 0, none⟩) 5 5) (l.map .string)) (hl : l.length = 5) : Reads w (.slice (some ⟨x, 1, none⟩) 4 4) ((l.drop 1).map .string) :=
  .inr ⟨x, 1, 4, by rw [List.length_map, List.length_drop, hl], h.lt.2, fun i hi => by
    rw [List.length_map, List.length_drop, hl] at hi
    rw [h.cell (i := 1 + i) (by rw [List.length_map]; omega), List.getD_eq_getElem?_getD, List.getD_eq_getElem?_getD, List.getElem?_map, List.getElem?_map, List.getElem?_drop]⟩
end Go.Proofs.Ytofhmdbilhdblaa

