/- Several rows of a call's own, that grow side by side. -/
import Derived.Test.YtlbjfigdocbffaaSl
namespace Go.Proofs.Ytlbjfigdocbffaa
open Go.RowKit
set_option linter.unusedVariables false
set_option linter.unusedSimpArgs false

/-- A part of a text. -/
theorem slice_run {P : Program} {T : TypeId} (hT : P.underlying T = some .string) (s : ByteArray) (lo hi : Int) (a b : Nat) (ha : lo = (a : Int)) (hb : hi = (b : Int)) (h1 : a ≤ b) (h2 : b ≤ s.size) (W : World) :
    (Instr.slice T (.string s) (some (.int .i64 lo)) (some (.int .i64 hi)) none).run P W = .ok (.string (s.extract a b)) W := by
  subst ha hb
  simp [Instr.slice, run_underlying hT, Instr.sliceBounds, Instr.sliceBound, asIntOf, h1, h2]
theorem slice_from_run {P : Program} {T : TypeId} (hT : P.underlying T = some .string) (s : ByteArray) (lo : Int) (a : Nat) (ha : lo = (a : Int)) (h1 : a ≤ s.size) (W : World) :
    (Instr.slice T (.string s) (some (.int .i64 lo)) none none).run P W = .ok (.string (s.extract a s.size)) W := by
  subst ha
  simp [Instr.slice, run_underlying hT, Instr.sliceBounds, Instr.sliceBound, asIntOf, h1]
theorem slice_to_run {P : Program} {T : TypeId} (hT : P.underlying T = some .string) (s : ByteArray) (hi : Int) (b : Nat) (hb : hi = (b : Int)) (h2 : b ≤ s.size) (W : World) :
    (Instr.slice T (.string s) none (some (.int .i64 hi)) none).run P W = .ok (.string (s.extract 0 b)) W := by
  subst hb
  simp [Instr.slice, run_underlying hT, Instr.sliceBounds, Instr.sliceBound, asIntOf, h2]
def Apart (u v : Value) : Prop := ∀ k, u.ownBlock = some k → v.ownBlock ≠ some k
theorem Apart.symm {u v : Value} (h : Apart u v) : Apart v u := fun k h1 h2 => h k h2 h1
theorem Apart.nil (v : Value) : Apart (.slice none 0 0) v := fun k h => by cases h
/-- All blocks but those of v are as they were. -/
def KeptBut (v : Value) (w w' : World) : Prop := ∀ k, k < w.heap.size → v.ownBlock ≠ some k → w'.heap[k]? = w.heap[k]?
theorem Own.kept {w w' : World} {B : Nat} {E : TypeId} {u v : Value} {ys : List Value} (h : Own w B E u ys) (hk : KeptBut v w w') (ha : Apart u v) : Own w' B E u ys := by
  refine ⟨h.o.1, ?_⟩
  rcases h.o.2 with h1 | ⟨g, cap, cur, h1, h2, h3, h4⟩
  · exact .inl h1
  · refine .inr ⟨g, cap, cur, h1, h2, ?_, h4⟩
    rw [hk g (Array.getElem?_eq_some_iff.1 h3).1 (ha g (by rw [h1]; rfl))]; exact h3
/-- One more; what stands in other blocks stays. -/
theorem Own.pushA {P : Program} {T E : TypeId} {i : TypeInfo} {z : Value} {bytes : Nat} (hT : P.underlying T = some (.slice E)) (hi : P.info? E = some i) (hz : i.zero = some z) (hs : i.size = 1) (hy : i.bytes = bytes) (hzs : z.cells.size = 1)
    {w : World} {B : Nat} {v : Value} {xs : List Value} (h : Own w B E v xs) (x : Value) (hx : x.oneCell' = true) (hB : B ≤ w.heap.size) (hm : (xs.length + 1) * bytes ≤ 140737488355328) (hl : xs.length + 1 ≤ 140737488355328) :
    ∃ v' w', (Builtin.append_ #[T, T] T #[v, .slice (some ⟨w.heap.size, 0, none⟩) 1 1]).run P (w.alloc (.cells #[x] E)) = .ok v' w' ∧ Own w' B E v' (xs ++ [x]) ∧ Below B w w' ∧ KeptBut v w w' ∧ (v'.ownBlock = v.ownBlock ∨ v'.ownBlock = some (w.heap.size + 1)) := by
  have hnews : ∀ j u, ([x] : List Value)[j]? = some u → (w.alloc (.cells #[x] E)).cell? ((⟨w.heap.size, 0, none⟩ : Addr).add j) = some u := fun j u hj => by
    match j, hj with
    | 0, hj => simp at hj; subst hj; rw [addr_at, World.cell?_alloc_mark]; simp
  obtain ⟨v', w', h1, h2, h3, h4⟩ := run_append_own (P := P) (w.alloc (.cells #[x] E)) B T T E i z 1 bytes hT hi hz hs hy hzs (by decide) v xs.length xs (h.o.alloc _) ⟨w.heap.size, 0, none⟩ 1 1 [x] rfl hnews
    (fun u hu => by simp at hu; subst hu; exact hx) (by unfold maxLen; omega) hm (by simp; omega)
  refine ⟨v', w', h1, ⟨by rw [List.length_append]; exact h2⟩, ((Below.refl B w).alloc hB _).grown h3 (by simp; omega) (fun k hk => (h.o.lt k hk).1), fun k hk hne => ?_, ?_⟩
  · rw [h3.block k (by simp; omega) (Ne.symm hne)]
    exact Below.heap_alloc w _ k hk
  · rcases h.o.2 with ⟨rfl, h0⟩ | ⟨g, cap, cur, rfl, hb, hg, hnc, hcm, hcs, htake⟩
    · have hr := run_append_nil (P := P) (w.alloc (.cells #[x] E)) T T E i z hT hi hz ⟨w.heap.size, 0, none⟩ 1 1 [x] (by rw [hs]; rfl) hnews (by decide) (by decide) (by rw [hy]; have := Nat.mul_le_mul_right bytes (show 1 ≤ xs.length + 1 by omega); omega)
      rw [hr] at h1
      have := congrArg (fun r => match r with | Result.ok v _ => v.ownBlock | _ => none) h1
      right
      simpa [Value.ownBlock] using this.symm
    · by_cases hroom : xs.length + 1 ≤ cap
      · have hg' : (w.alloc (.cells #[x] E)).heap[g]? = some (.cells cur E (0, 0)) := by rw [Below.heap_alloc w _ g (Array.getElem?_eq_some_iff.1 hg).1]; exact hg
        have hr := run_append_room (P := P) (w.alloc (.cells #[x] E)) T T E i hT hi g xs.length cap cur hg' ⟨w.heap.size, 0, none⟩ 1 1 [x] (by rw [hs]; rfl) hnews (fun u hu => by simp at hu; subst hu; exact hx) hroom (by rw [hs, hcs]; simp; omega)
        rw [hr] at h1
        have := congrArg (fun r => match r with | Result.ok v _ => v.ownBlock | _ => none) h1
        left
        simpa [Value.ownBlock] using this.symm
      · have holds : ∀ j u, xs[j]? = some u → (w.alloc (.cells #[x] E)).cell? ((⟨g, 0, none⟩ : Addr).add j) = some u := (h.o.alloc _).cells (g := g) rfl
        have hr := run_append_grow (P := P) (w.alloc (.cells #[x] E)) T T E i z hT hi hz ⟨g, 0, none⟩ xs.length cap xs (by rw [hs]; omega) holds ⟨w.heap.size, 0, none⟩ 1 1 [x] (by rw [hs]; rfl) hnews (by omega) (by omega) (by rw [hy]; exact growslice_fits (by omega) hm)
        rw [hr] at h1
        have := congrArg (fun r => match r with | Result.ok v _ => v.ownBlock | _ => none) h1
        right
        simpa [Value.ownBlock] using this.symm
theorem Apart.push {w : World} {B : Nat} {E : TypeId} {u v v' : Value} {ys : List Value} (ho : Own w B E u ys) (ha : Apart u v) (h : v'.ownBlock = v.ownBlock ∨ v'.ownBlock = some (w.heap.size + 1)) : Apart u v' := fun k hk => by
  rcases h with h | h
  · rw [h]; exact ha k hk
  · rw [h]
    have := (ho.o.lt k hk).2
    intro e
    simp at e
    omega
end Go.Proofs.Ytlbjfigdocbffaa
