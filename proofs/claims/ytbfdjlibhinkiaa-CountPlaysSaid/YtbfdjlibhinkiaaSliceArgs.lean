/- Slices of structs that came in as arguments: each field one cell. -/
import Derived.Test.YtbfdjlibhinkiaaAggArgs
import Derived.Test.YtbfdjlibhinkiaaArgs
import Derived.Deep.Slices
namespace Go.Proofs.Ytbfdjlibhinkiaa
open Go.RowKit Go.ChangeShapes Go.WideShapes Go.Deep
set_option linter.unusedVariables false
set_option linter.unusedSimpArgs false

section
variable {H : Type} {enc : TypeId × Value → H} {P : Program} {w : World} {base b0 : Nat} {held : Bool} {r : Reach}
theorem open_structs {t e : TypeId} {fs : Array Field} {v : Value} {d : DataW H} {p : List MemPlace} (ht : P.underlying t = some (.slice e)) (hs : P.underlying e = some (.struct fs)) (ho : flatF P fs = true) (hC : P.cellsOf e = fs.size)
    (hval : Value.okWide P w r b0 t v) (h : DataW.Trod enc P w base (fun _ => true) held t v d p) :
    ∃ (a : Option Addr) (len cap : Nat) (D : Nat → DataW H), v = .slice a len cap ∧ (d = .nil ∧ len = 0 ∨ ∃ spare, d = .slice ((List.range len).map D) spare) ∧
      ∀ i, i < len → ∃ (b off : Nat) (ys : List (DataW H × List MemPlace)) (n : Nat), a = some ⟨b, off, none⟩ ∧ b < w.heap.size ∧ D i = .agg (ys.map (·.1)) ∧
        ∀ (j : Nat) (f : Field), fs[j]? = some f → ∃ c y, w.cell? ⟨b, off + i * fs.size + j, none⟩ = some c ∧ ys[j]? = some y ∧ DataW.trod enc P w base (fun _ => true) held n f.type [c] = some y := by
  obtain ⟨fuel, hf⟩ := h
  obtain ⟨a0, len0, cap0, rfl⟩ := okWide_slice ht hval
  rcases Deep.open_slice ht hf with ⟨hcs, hx⟩ | ⟨a, len, cap, m, n, D, Pl, hcs, _, hl, hm, hmm, hx, hcell⟩
  · simp [Value.cells] at hcs
    obtain ⟨rfl, rfl, rfl⟩ := hcs
    simp only [Prod.mk.injEq] at hx
    exact ⟨none, 0, 0, fun _ => .nil, rfl, .inl ⟨hx.1, rfl⟩, fun i hi => by omega⟩
  · simp [Value.cells] at hcs
    obtain ⟨rfl, rfl, rfl⟩ := hcs
    simp only [Prod.mk.injEq] at hx
    simp only [if_true] at hmm
    subst hmm
    obtain ⟨h1, h2, h3⟩ := okWide_at ht hval
    obtain ⟨b, off, spot⟩ := a
    simp only at h1 h2
    subst h1
    refine ⟨some ⟨b, off, none⟩, len0, m, D, rfl, .inr ⟨_, hx.1⟩, fun i hi => ?_⟩
    obtain ⟨cs', hc, ht'⟩ := hcell i (by omega)
    obtain ⟨ys, n', hy, hcl, hyl, hg⟩ := trod_fields hs ho hC ht'
    simp only [Prod.mk.injEq] at hy
    obtain ⟨_, _, hat⟩ := World.cells?_some hc
    refine ⟨b, off, ys, n', rfl, h2, hy.1, fun j f hj => ?_⟩
    obtain ⟨c, y, e1, e2, e3⟩ := hg j f hj
    have hjl : j < fs.size := (Array.getElem?_eq_some_iff.1 hj).1
    have := hat j (by rw [hC]; exact hjl)
    rw [addr_at, hC, addr_at, e1] at this
    exact ⟨c, y, this, e2, e3⟩
theorem field_bool {ti : TypeId} {n : Nat} {sp : Nat → Bool} {c : Value} {y : DataW H × List MemPlace} (hi : P.underlying ti = some .bool) (h : DataW.trod enc P w base sp held n ti [c] = some y) : ∃ s : Bool, c = .bool s := by
  obtain ⟨s, e1, e2⟩ := DataW.trod_bool hi h
  exact ⟨s, by simpa using e1⟩
end
section
variable {H : Type} {P : Program} {ts : List TypeId} {ds : List (DataW H)}
theorem sized_structs (h : (DataW.weightsEach P ts ds).all (· ≤ reachBytes) = true) {j : Nat} {t e : TypeId} {len : Nat} {D : Nat → DataW H} {d : DataW H} {n : Nat} (ht : ts[j]? = some t) (hd : ds[j]? = some d) (hu : P.underlying t = some (.slice e)) (hb : P.bytesOf e = n) (hn : 1 ≤ n)
    (hl : d = .nil ∧ len = 0 ∨ ∃ spare, d = .slice ((List.range len).map D) spare) : len ≤ 140737488351232 := by
  rcases hl with ⟨_, rfl⟩ | ⟨spare, rfl⟩
  · simp
  · have h1 := sized_slice h ht hd hu
    rw [hb, List.length_map, List.length_range] at h1
    have : len * 1 ≤ (len + spare.length) * n := Nat.mul_le_mul (by omega) hn
    simp [reachBytes] at h1
    omega
end
end Go.Proofs.Ytbfdjlibhinkiaa
