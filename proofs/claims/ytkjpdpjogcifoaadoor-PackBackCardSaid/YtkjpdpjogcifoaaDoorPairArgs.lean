/- Lists of pairs of numbers that came in as arguments. -/
import Derived.Test.YtkjpdpjogcifoaaDoorPackLaw3
import Derived.Test.YtkjpdpjogcifoaaDoorArgs
import Derived.Deep.SlicePairs
namespace Go.Proofs.YtkjpdpjogcifoaaDoor
open Go.RowKit Go.ChangeShapes Go.WideShapes
set_option linter.unusedVariables false
set_option linter.unusedSimpArgs false

section
variable {H : Type} {enc : TypeId × Value → H} {P : Program} {w : World} {base b0 : Nat} {held : Bool} {r : Reach}
def pairLit {H : Type} (x : Int × Int) : DataW H := .agg [.lit (.int .i64 x.1), .lit (.int .i64 x.2)]
theorem open_pairs {t e ti : TypeId} {f0 f1 : Field} {v : Value} {d : DataW H} {p : List MemPlace} (ht : P.underlying t = some (.slice e)) (he : P.underlying e = some (.struct #[f0, f1])) (hi : P.underlying ti = some (.int .i64))
    (hc : (P.cellsOf e == 2 && f0.offset == 0 && f1.offset == 1 && P.cellsOf f0.type == 1 && P.cellsOf f1.type == 1) = true) (hty : (f0.type == ti && f1.type == ti) = true)
    (hval : Value.okWide P w r b0 t v) (h : DataW.Trod enc P w base (fun _ => true) held t v d p) :
    ∃ (a : Option Addr) (cap : Nat) (l : List (Int × Int)), v = .slice a l.length cap ∧ Pairs w a l ∧ (∀ i, i < l.length → InR (l.getD i (0, 0)).1 ∧ InR (l.getD i (0, 0)).2) ∧
      (d = .nil ∧ l = [] ∨ ∃ spare, d = .slice (l.map pairLit) spare) := by
  simp only [Bool.and_eq_true, beq_iff_eq] at hc hty
  obtain ⟨⟨⟨⟨hc0, hc1⟩, hc2⟩, hc3⟩, hc4⟩ := hc
  obtain ⟨fuel, hf⟩ := h
  obtain ⟨a0, len0, cap0, rfl⟩ := okWide_slice ht hval
  rcases Deep.open_slice_pairs ht he hc0 hc1 hc2 hc3 hc4 hf with ⟨hcs, hx⟩ | ⟨a, len, cap, m, n, V0, V1, D0, D1, P0, P1, hcs, _, hl, hm, hmm, hx, hcell⟩
  · simp [Value.cells] at hcs
    obtain ⟨rfl, rfl, rfl⟩ := hcs
    simp only [Prod.mk.injEq] at hx
    exact ⟨none, 0, [], rfl, ⟨fun i hi => by simp at hi⟩, fun i hi => by simp at hi, .inl ⟨hx.1, rfl⟩⟩
  · simp [Value.cells] at hcs
    obtain ⟨rfl, rfl, rfl⟩ := hcs
    simp only [Prod.mk.injEq] at hx
    simp only [if_true] at hmm
    subst hmm
    have hh := okWide_at ht hval
    obtain ⟨b, off, spot⟩ := a
    obtain ⟨h1, h2, h3⟩ := hh
    simp only at h1 h2
    subst h1
    have each : ∀ i, i < len0 → ∃ x : Int × Int, V0 i = .int .i64 x.1 ∧ V1 i = .int .i64 x.2 ∧ D0 i = .lit (.int .i64 x.1) ∧ D1 i = .lit (.int .i64 x.2) ∧ InR x.1 ∧ InR x.2 := fun i hi' => by
      obtain ⟨_, _, g0, g1⟩ := hcell i (by omega)
      rw [hty.1] at g0
      rw [hty.2] at g1
      obtain ⟨x, e0, d0, w0⟩ := DataW.trod_int hi g0
      obtain ⟨y, e1, d1, w1⟩ := DataW.trod_int hi g1
      simp only [Prod.mk.injEq] at d0 d1
      refine ⟨(x, y), by simpa using e0, by simpa using e1, d0.1, d1.1, ?_, ?_⟩
      · simp [Lit.wf, IntKind.min, IntKind.max, IntKind.signed, IntKind.bits] at w0; unfold InR; omega
      · simp [Lit.wf, IntKind.min, IntKind.max, IntKind.signed, IntKind.bits] at w1; unfold InR; omega
    obtain ⟨f, hfx⟩ := Go.Deep.choose_lt each
    have hg : ∀ i, i < len0 → ((List.range len0).map f).getD i (0, 0) = f i := fun i hi' => by
      rw [List.getD_eq_getElem?_getD, List.getElem?_map, List.getElem?_range hi']; rfl
    refine ⟨some ⟨b, off, none⟩, m, (List.range len0).map f, by simp, ⟨fun i hi' => ?_⟩, fun i hi' => ?_, .inr ⟨(List.range (m - len0)).map fun j => .agg [D0 (len0 + j), D1 (len0 + j)], ?_⟩⟩
    · rw [List.length_map, List.length_range] at hi'
      obtain ⟨g0, g1, _, _⟩ := hcell i (by omega)
      rw [hg i hi']
      refine ⟨b, off, rfl, h2, ?_, ?_⟩
      · rw [← (hfx i hi').1, ← g0, addr_at]
      · rw [← (hfx i hi').2.1, ← g1, addr_at, Nat.add_assoc]
    · rw [List.length_map, List.length_range] at hi'
      rw [hg i hi']
      exact (hfx i hi').2.2.2.2
    · rw [hx.1]
      congr 1
      rw [List.map_map]
      apply List.map_congr_left
      intro i hi'
      have := List.mem_range.1 hi'
      simp only [Function.comp, pairLit]
      rw [(hfx i this).2.2.1, (hfx i this).2.2.2.1]
end
section
variable {H : Type} {P : Program} {ts : List TypeId} {ds : List (DataW H)}
theorem sized_pairs (h : (DataW.weightsEach P ts ds).all (· ≤ reachBytes) = true) {j : Nat} {t e : TypeId} {l : List (Int × Int)} {d : DataW H} {n : Nat} (ht : ts[j]? = some t) (hd : ds[j]? = some d) (hu : P.underlying t = some (.slice e)) (hb : P.bytesOf e = n) (hn : 1 ≤ n)
    (hl : d = .nil ∧ l = [] ∨ ∃ spare, d = .slice (l.map pairLit) spare) : l.length ≤ 140737488351232 := by
  rcases hl with ⟨_, rfl⟩ | ⟨spare, rfl⟩
  · simp
  · have h1 := sized_slice h ht hd hu
    rw [hb, List.length_map] at h1
    have : l.length * 1 ≤ (l.length + spare.length) * n := Nat.mul_le_mul (by omega) hn
    simp [reachBytes] at h1
    omega
end
end Go.Proofs.YtkjpdpjogcifoaaDoor
