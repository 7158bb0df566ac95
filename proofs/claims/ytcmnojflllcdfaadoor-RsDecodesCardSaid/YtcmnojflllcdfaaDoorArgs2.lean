/- Lists of truth values that came in as arguments. -/
import Derived.Test.YtcmnojflllcdfaaDoorArgs
import Derived.Deep.Grids
namespace Go.Proofs.YtcmnojflllcdfaaDoor
open Go.RowKit Go.ChangeShapes Go.WideShapes
set_option linter.unusedVariables false
set_option linter.unusedSimpArgs false

section
variable {H : Type} {enc : TypeId × Value → H} {P : Program} {w : World} {base b0 : Nat} {held : Bool} {r : Reach}
theorem open_flags {t e : TypeId} {v : Value} {d : DataW H} {p : List MemPlace} (ht : P.underlying t = some (.slice e)) (he : P.underlying e = some .bool) (hc : P.cellsOf e = 1)
    (hval : Value.okWide P w r b0 t v) (h : DataW.Trod enc P w base (fun _ => true) held t v d p) :
    ∃ l : List Bool, Reads w v (l.map .bool) ∧ (∃ a len cap, v = .slice a len cap ∧ len ≤ cap) ∧
      (d = .nil ∧ l = [] ∨ ∃ spare, d = .slice (l.map fun s => .lit (.bool s)) spare) := by
  obtain ⟨fuel, hf⟩ := h
  obtain ⟨a0, len0, cap0, rfl⟩ := okWide_slice ht hval
  rcases Deep.open_bools ht he hc hf with ⟨hcs, hx⟩ | ⟨a, len, cap, B, hcs, _, hl, hm, hx, hcell⟩
  · simp [Value.cells] at hcs
    obtain ⟨rfl, rfl, rfl⟩ := hcs
    simp only [Prod.mk.injEq] at hx
    exact ⟨[], .inl ⟨rfl, rfl⟩, ⟨_, _, _, rfl, Nat.le_refl _⟩, .inl ⟨hx.1, rfl⟩⟩
  · simp [Value.cells] at hcs
    obtain ⟨rfl, rfl, rfl⟩ := hcs
    simp only [Prod.mk.injEq] at hx
    obtain ⟨h1, h2, h3⟩ := okWide_at ht hval
    obtain ⟨b, off, spot⟩ := a
    simp only at h1 h2
    subst h1
    refine ⟨(List.range len0).map B, .inr ⟨b, off, cap0, by simp, h2, fun i hi => ?_⟩, ⟨_, _, _, rfl, h3⟩, .inr ⟨(List.range (cap0 - len0)).map fun j => .lit (.bool (B (len0 + j))), by rw [hx.1]; simp [Deep.boolRow]⟩⟩
    have hi' : i < len0 := by simpa using hi
    have := hcell i (by omega)
    rw [addr_at] at this
    rw [this]
    simp [List.getD_eq_getElem?_getD, List.getElem?_map, List.getElem?_range hi']
end
section
variable {H : Type} {P : Program} {ts : List TypeId} {ds : List (DataW H)}
theorem sized_flags (h : (DataW.weightsEach P ts ds).all (· ≤ reachBytes) = true) {j : Nat} {t e : TypeId} {l : List Bool} {d : DataW H} {n : Nat} (ht : ts[j]? = some t) (hd : ds[j]? = some d) (hu : P.underlying t = some (.slice e)) (hb : P.bytesOf e = n) (hn : 1 ≤ n)
    (hl : d = .nil ∧ l = [] ∨ ∃ spare, d = .slice (l.map fun s => .lit (.bool s)) spare) : l.length ≤ 140737488351232 := by
  rcases hl with ⟨_, rfl⟩ | ⟨spare, rfl⟩
  · simp
  · have h1 := sized_slice h ht hd hu
    rw [hb, List.length_map] at h1
    have : l.length * 1 ≤ (l.length + spare.length) * n := Nat.mul_le_mul (by omega) hn
    simp [reachBytes] at h1
    omega
end
end Go.Proofs.YtcmnojflllcdfaaDoor
