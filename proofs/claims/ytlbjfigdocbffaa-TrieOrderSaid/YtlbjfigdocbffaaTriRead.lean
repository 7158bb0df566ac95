/- trie: what a block holds; what a node is. -/
import Derived.Test.YtlbjfigdocbffaaTriBase
namespace Go.Proofs.Ytlbjfigdocbffaa
open Go.RowKit
set_option linter.unusedVariables false
set_option linter.unusedSimpArgs false

def GivesS (w : World) (s : ByteArray) (e : Ending) (w' : World) : Prop := e = .returned (.tuple #[.string s, .int .i64 0]) ∧ Below w.heap.size w w'
section
variable {w w' : World} {h g m n : Nat} {u : Value} {C : Nat → Nat} {Z : Int → Bool} {F : Int → Value} {X : Nat → ByteArray}
set_option maxRecDepth 100000 in
set_option maxHeartbeats 1000000 in
/-- What a block holds. -/
theorem hread_any (H : HpAt w h g m n u C Z F X) (i : Nat) (hi : i < n) : Calls Try.prog 35 #[.pointer (some ⟨h, 0, none⟩), .int .i64 (i : Int)] w (GivesS w (X i)) := by
  have hn := H.sm.n200
  have hI := in64_nat i (by omega)
  have c2 := H.c2
  have hlk := H.look hI
  have hz := (zero_of_info tc_zs).1
  have hst : ∀ s t, (storeCells ⟨w.heap.size, 0, none⟩ (tcL t).toArray.toList 0).run Try.prog (w.alloc (.cells (tcL s).toArray 80)) = .ok () (w.alloc (.cells (tcL t).toArray 80)) :=
    fun s t => run_storeCells_new (P := Try.prog) w 80 (tcL s).toArray (tcL t).toArray (tc_isa t) (by rw [tc_size, tc_size]) (tc_one t)
  have hs0 := hst zero120 (X i)
  have hcl := tcL_len (X i)
  have hB0 : HpAt (w.alloc (.cells (tcL (X i)).toArray 80)) h g m n u C Z F X := H.below ((Below.refl _ _).alloc (Nat.le_refl _) _)
  have hB1 : Below w.heap.size w (w.alloc (.cells (tcL (X i)).toArray 80)) := (Below.refl _ _).alloc (Nat.le_refl _) _
  have hsl : ∀ W : World, (Instr.sliceAt 80 (.pointer (some ⟨w.heap.size, 0, none⟩)) none none none).run Try.prog W = .ok (.slice (some ⟨w.heap.size, 0, none⟩) 120 120) W := fun W => by
    simp [Instr.sliceAt, Instr.slice, Instr.sureAddr, run_underlying tc_under, Instr.sliceBounds, Instr.sliceBound, asIntOf, asAddr]
    exact addr_at _ _ _
  have hstr : (convert 86 9 (.slice (some ⟨w.heap.size, 0, none⟩) 120 120)).run Try.prog (w.alloc (.cells (tcL (X i)).toArray 80)) = .ok (.string (X i)) (w.alloc (.cells (tcL (X i)).toArray 80)) :=
    tc_str (X i) (H.x i) fun j hj => by rw [World.cell?_alloc_mark]; simp
  rw [H.f i hi] at hlk
  by_cases hZ : Z i = true
  · rw [hZ] at hlk
    clear hB0 H hZ hI hst hn hi
    generalize X i = s at *
    generalize tcL zero120 = z0 at *
    generalize tcL s = cs at *
    go_enter Try.func35, Try.ntmps35
    go_wp2_with (with_reducible refine wpList_lookup_run hlk rfl _ _ rfl rfl rfl ?_)
    go_ret2
    exact ⟨rfl, hB1⟩
  · rw [Bool.not_eq_true] at hZ
    rw [hZ] at hlk
    have c0 := hB0.c0
    have cs' := src_any hB0 i hi
    rw [H.z i hi hZ] at *
    clear hB0 H hZ hI hst hn hi hstr hsl
    generalize tcL zero120 = cs at *
    go_enter Try.func35, Try.ntmps35
    go_wp2_with (with_reducible refine wpList_lookup_run hlk rfl _ _ rfl rfl rfl ?_)
    refine cs'.mono ?_
    rintro e w' ⟨rfl, rfl⟩
    go_wp2
    go_ret2
    exact ⟨rfl, hB1⟩
end
end Go.Proofs.Ytlbjfigdocbffaa
