/- Lists that came in as arguments, as the walks want them. -/
import Derived.Test.YtlbjfigdocbffaaSl
import Derived.SliceStrings
import Derived.ChangeSlices
import Derived.WideShapes
import Derived.SizedLaws
namespace Go.Proofs.Ytlbjfigdocbffaa
open Go.RowKit Go.ChangeShapes Go.WideShapes
set_option linter.unusedVariables false
set_option linter.unusedSimpArgs false

section
variable {H : Type} {enc : TypeId × Value → H} {P : Program} {w : World} {base b0 : Nat} {held : Bool} {r : Reach}
theorem okWide_at {t e : TypeId} {a : Addr} {len cap : Nat} (ht : P.underlying t = some (.slice e)) (h : Value.okWide P w r b0 t (.slice (some a) len cap)) : a.spot = none ∧ a.block < w.heap.size ∧ len ≤ cap := by
  simp only [Value.okWide, ht, Cell.okWide, Cell.ok] at h
  obtain ⟨h1, _, _, h2, row, cells, h3, _⟩ := h
  refine ⟨h2, ?_, h1⟩
  rcases Nat.lt_or_ge a.block w.heap.size with h | h
  · exact h
  · simp [World.shape?, Array.getElem?_eq_none h] at h3
/-- A list of texts. -/
theorem open_texts {t e : TypeId} {v : Value} {d : DataW H} {p : List MemPlace} (ht : P.underlying t = some (.slice e)) (he : P.underlying e = some .string) (hc : P.cellsOf e = 1)
    (hval : Value.okWide P w r b0 t v) (h : DataW.Trod enc P w base (fun _ => true) held t v d p) :
    ∃ l : List ByteArray, Reads w v (l.map .string) ∧ (∃ a len cap, v = .slice a len cap ∧ len ≤ cap) ∧
      (d = .nil ∧ l = [] ∨ ∃ spare, d = .slice (l.map fun s => .lit (.string s.data.toList)) spare) := by
  obtain ⟨fuel, hf⟩ := h
  obtain ⟨a0, len0, cap0, rfl⟩ := okWide_slice ht hval
  rcases open_strings ht he hc hf with ⟨hcs, hx⟩ | ⟨a, len, cap, ss, hcs, _, hl, hm, hz, hx, hcell, _⟩
  · simp [Value.cells] at hcs
    obtain ⟨rfl, rfl, rfl⟩ := hcs
    simp only [Prod.mk.injEq] at hx
    exact ⟨[], .inl ⟨⟨_, _, rfl⟩, rfl⟩, ⟨_, _, _, rfl, Nat.le_refl _⟩, .inl ⟨hx.1, rfl⟩⟩
  · simp [Value.cells] at hcs
    obtain ⟨rfl, rfl, rfl⟩ := hcs
    simp only [Prod.mk.injEq] at hx
    simp only [if_true] at hz
    obtain ⟨h1, h2, h3⟩ := okWide_at ht hval
    obtain ⟨b, off, spot⟩ := a
    simp only at h1 h2
    subst h1
    refine ⟨ss.take len0, .inr ⟨b, off, cap0, by simp; omega, h2, fun i hi => ?_⟩, ⟨_, _, _, rfl, h3⟩, .inr ⟨_, hx.1⟩⟩
    have hi' : i < len0 := by simp at hi; omega
    have := hcell i (by omega)
    rw [addr_at] at this
    rw [this]
    simp [List.getD_eq_getElem?_getD, List.getElem?_take, hi', show i < ss.length by omega]
/-- A list of numbers. -/
theorem open_nums {t e : TypeId} {k : IntKind} {v : Value} {d : DataW H} {p : List MemPlace} (ht : P.underlying t = some (.slice e)) (he : P.underlying e = some (.int k)) (hc : P.cellsOf e = 1)
    (hval : Value.okWide P w r b0 t v) (h : DataW.Trod enc P w base (fun _ => true) held t v d p) :
    ∃ l : List Int, Reads w v (l.map (.int k)) ∧ (∃ a len cap, v = .slice a len cap ∧ len ≤ cap) ∧ (∀ n ∈ l, (Lit.int k n).wf = true) ∧
      (d = .nil ∧ l = [] ∨ ∃ spare, d = .slice (l.map fun n => .lit (.int k n)) spare) := by
  obtain ⟨fuel, hf⟩ := h
  obtain ⟨a0, len0, cap0, rfl⟩ := okWide_slice ht hval
  rcases open_ints ht he hc hf with ⟨hcs, hx⟩ | ⟨a, len, cap, ss, hcs, _, hl, hm, hz, hx, hcell, hwf⟩
  · simp [Value.cells] at hcs
    obtain ⟨rfl, rfl, rfl⟩ := hcs
    simp only [Prod.mk.injEq] at hx
    exact ⟨[], .inl ⟨⟨_, _, rfl⟩, rfl⟩, ⟨_, _, _, rfl, Nat.le_refl _⟩, (fun n hn => by cases hn), .inl ⟨hx.1, rfl⟩⟩
  · simp [Value.cells] at hcs
    obtain ⟨rfl, rfl, rfl⟩ := hcs
    simp only [Prod.mk.injEq] at hx
    simp only [if_true] at hz
    obtain ⟨h1, h2, h3⟩ := okWide_at ht hval
    obtain ⟨b, off, spot⟩ := a
    simp only at h1 h2
    subst h1
    refine ⟨ss.take len0, .inr ⟨b, off, cap0, by simp; omega, h2, fun i hi => ?_⟩, ⟨_, _, _, rfl, h3⟩, fun n hn => hwf n (List.mem_of_mem_take hn), .inr ⟨_, hx.1⟩⟩
    have hi' : i < len0 := by simp at hi; omega
    have := hcell i (by omega)
    rw [addr_at] at this
    rw [this]
    simp [List.getD_eq_getElem?_getD, List.getElem?_take, hi', show i < ss.length by omega]
end
section
variable {H : Type} {P : Program} {ts : List TypeId} {ds : List (DataW H)}
theorem weights_all {e : TypeId} : ∀ {l : List (DataW H)} {d : DataW H} {n : Nat}, d ∈ l → n ∈ d.weights P e → n ∈ DataW.weightsAll P e l
  | x :: l, d, n, h, hn => by
    simp only [DataW.weightsAll, List.mem_append]
    rcases List.mem_cons.1 h with rfl | h
    · exact .inl hn
    · exact .inr (weights_all h hn)
/-- How great lists of texts are. -/
theorem sized_texts (h : (DataW.weightsEach P ts ds).all (· ≤ reachBytes) = true) {j : Nat} {t e : TypeId} {l : List ByteArray} {d : DataW H} (ht : ts[j]? = some t) (hd : ds[j]? = some d) (hu : P.underlying t = some (.slice e)) (hb : P.bytesOf e = 16)
    (hl : d = .nil ∧ l = [] ∨ ∃ spare, d = .slice (l.map fun s => .lit (.string s.data.toList)) spare) : l.length * 16 ≤ 140737488351232 ∧ ∀ s ∈ l, s.size ≤ 140737488351232 := by
  rcases hl with ⟨_, rfl⟩ | ⟨spare, rfl⟩
  · exact ⟨by simp, fun s hs => by cases hs⟩
  · have h1 := sized_slice h ht hd hu
    rw [hb, List.length_map] at h1
    refine ⟨?_, fun s hs => ?_⟩
    · have : l.length * 16 ≤ (l.length + spare.length) * 16 := Nat.mul_le_mul_right _ (by omega)
      simp [reachBytes] at h1
      omega
    · have := List.all_eq_true.1 h s.size (DataW.weights_mem_each ht hd s.size (by
        simp only [DataW.weights, hu]
        refine List.mem_cons_of_mem _ (List.mem_append.2 (.inl ?_))
        refine weights_all (d := .lit (.string s.data.toList)) (List.mem_map.2 ⟨s, hs, rfl⟩) ?_
        simp [DataW.weights]))
      have h3 : s.size ≤ reachBytes := by simpa using this
      simpa [reachBytes] using h3
theorem sized_nums (h : (DataW.weightsEach P ts ds).all (· ≤ reachBytes) = true) {j : Nat} {t e : TypeId} {k : IntKind} {l : List Int} {d : DataW H} {n : Nat} (ht : ts[j]? = some t) (hd : ds[j]? = some d) (hu : P.underlying t = some (.slice e)) (hb : P.bytesOf e = n) (hn : 1 ≤ n)
    (hl : d = .nil ∧ l = [] ∨ ∃ spare, d = .slice (l.map fun n => .lit (.int k n)) spare) : l.length ≤ 140737488351232 := by
  rcases hl with ⟨_, rfl⟩ | ⟨spare, rfl⟩
  · simp
  · have h1 := sized_slice h ht hd hu
    rw [hb, List.length_map] at h1
    have : l.length * 1 ≤ (l.length + spare.length) * n := Nat.mul_le_mul (by omega) hn
    simp [reachBytes] at h1
    omega
end
end Go.Proofs.Ytlbjfigdocbffaa
