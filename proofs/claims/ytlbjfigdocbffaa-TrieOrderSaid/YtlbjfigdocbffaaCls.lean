/- A region that draws its order, walked once, in a class of worlds. -/
import Derived.Test.YtlbjfigdocbffaaRows
import Derived.WalkKit
import Derived.Below
import Derived.BigQuiet
import Derived.Deep.QuietTactic
namespace Go.Proofs.Ytlbjfigdocbffaa
open Go.RowKit
/-- A region that draws its order, whose operations leave the world alone and whose calls leave a world of the class D: one walk, in the order of the text. Z names the worlds of the class. -/
theorem wp_region_cls {P : Program} (D : World → Prop) {id : Nat} {Q : Exit → Act → World → Prop} {a : Act} {w : World} {l : List Oper} (hm : P.follows .mixedOrders = true) (hB : Region.lexB .any l.toArray = true) (hC : D w.drew)
    (h : ∀ (Z : Type) (f : Z → World), Nonempty Z → (∀ z, D (f z)) → (∀ w', D w' → ∃ z, w' = f z) →
      wpQuiet P l.toArray (fun w' => ∃ z : Z, w' = f z) (fun a' => ∀ w', (∃ z : Z, w' = f z) → Q .normal a' w') l a) : (Code.region id l.toArray true).wp P Q a w := by
  have := h {w' // D w'} Subtype.val ⟨⟨_, hC⟩⟩ (fun z => z.property) (fun w' hw => ⟨⟨w', hw⟩, rfl⟩)
  exact wp_region_quiet (C := fun w' => ∃ z : {w' // D w'}, w' = z.val) hm hB ⟨⟨_, hC⟩, rfl⟩ (by simpa using this)
theorem toQ {Z : Type} {f : Z → World} {P : Program} {n : FuncId} {args : Array Value} {v : Value} (z : Z) (h : Calls P n args (f z) fun e w' => e = .returned v ∧ f z = w') :
    Calls P n args (f z) fun e w'' => e = .returned v ∧ ∃ z' : Z, w'' = f z' := h.mono fun _ _ ⟨he, hw⟩ => ⟨he, z, hw.symm⟩
theorem toQB {w0 : World} {Z : Type} {f : Z → World} (hD : ∀ z, Below w0.heap.size w0 (f z)) (hE : ∀ w', Below w0.heap.size w0 w' → ∃ z, w' = f z) {P : Program} {n : FuncId} {args : Array Value} {v : Value} (z : Z)
    (h : Calls P n args (f z) fun e w' => e = .returned v ∧ Below (f z).heap.size (f z) w') : Calls P n args (f z) fun e w'' => e = .returned v ∧ ∃ z' : Z, w'' = f z' :=
  h.mono fun _ w' ⟨he, hw⟩ => ⟨he, hE w' ((hD z).trans (hw.mono (hD z).size))⟩
theorem bcell {W w1 : World} (hb : Below W.heap.size W w1) : (∀ b o, b < W.heap.size → w1.cell? ⟨b, o, none⟩ = W.cell? ⟨b, o, none⟩) ∧ (∀ b o, b < W.heap.size → w1.frozen? ⟨b, o, none⟩ = W.frozen? ⟨b, o, none⟩) :=
  ⟨fun b o h => hb.cell (p := ⟨b, o, none⟩) h, fun b o h => hb.frozen (p := ⟨b, o, none⟩) h⟩
theorem below_c {w0 w w' : World} (h : Below w0.heap.size w0 w) (hb : Below w.heap.size w w') : Below w0.heap.size w0 w' := h.trans (hb.mono h.size)
/-- In whatever world of the class the old cells read as before. -/
theorem clsCell {w0 : World} {Z : Type} {f : Z → World} (hD : ∀ z, Below w0.heap.size w0 (f z)) : ∀ (z : Z) b o, b < w0.heap.size → (f z).cell? ⟨b, o, none⟩ = w0.cell? ⟨b, o, none⟩ := fun z b o h => (hD z).cell (p := ⟨b, o, none⟩) h
end Go.Proofs.Ytlbjfigdocbffaa
