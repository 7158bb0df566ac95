import Derived.Test.YtjgafpkpoppcbaaGreatDoorStrCall
set_option linter.unusedVariables false
set_option linter.unusedSimpArgs false
namespace Go.Proofs.YtjgafpkpoppcbaaGreatDoor
open Go.RowKit
set_option maxRecDepth 100000
theorem heap_put (W : World) {p x : Nat} (h : x ≠ p) (i : Nat) (u : Value) : (W.setCell ⟨p, i, none⟩ u).heap[x]? = W.heap[x]? := Below.heap_setCell _ _ _ _ (fun e => h e)
theorem below_N (W : World) (k : Nat) : Below W.heap.size W (W.drewN k) := ⟨rfl, rfl, rfl, Nat.le_refl _, fun _ _ => rfl⟩
section
variable {w W W' : World} {S S' : Nat → Prop} {ka n g p : Nat} {K M B : Int} {R : Rk} {v : Value} {xs : List Value} {gone : List Bool}
theorem SW.put (h : SW w S W ka n g K M B R) (hp : w.heap.size ≤ p) (hg : g ≠ p) (hS : ¬ S p) (i : Nat) (u : Value) : SW w S (W.setCell ⟨p, i, none⟩ u) ka n g K M B R :=
  ⟨RS.setO h.ra hp hS i u, (heap_put W hg i u).trans h.gb, h.gn, h.tb.setCell (by show 2 ≤ p; have := h.two; omega) u, h.two⟩
theorem Lst.put (h : Lst W S v xs) (hq : ∀ q, v.ownBlock = some q → q ≠ p) (i : Nat) (u : Value) : Lst (W.setCell ⟨p, i, none⟩ u) S v xs :=
  ⟨h.r.kept (by simp) fun q e _ => heap_put W (hq q e) i u, h.c, fun q e => ⟨by simpa using (h.n q e).1, (h.n q e).2⟩⟩
structure GN (W : World) (S : Nat → Prop) (p n : Nat) (gone : List Bool) : Prop where
  o : Own W p 4 (.slice (some ⟨p, 0, none⟩) n n) (bv gone)
  n : ¬ S p
theorem GN.stp (h : GN W S p n gone) (hs : Stp S S' W W') : GN W' S' p n gone := ⟨h.o.sameBlock (hs.oth p h.o.lt.2 h.n), fun z => by
  rcases hs.grow p z with y | y
  · exact h.n y
  · have := h.o.lt.2; omega⟩
theorem GN.after (h : GN W S p n gone) (hb : Below W.heap.size W W') : GN W' S p n gone := h.stp (Stp.quiet hb)
theorem GN.put (h : GN W S p n gone) (i : Nat) : GN (W.setCell ⟨p, i, none⟩ (.bool true)) S p n (gone.set i true) := ⟨by rw [bv_set]; exact h.o.set i _, h.n⟩
theorem GN.cell (h : GN W S p n gone) {i : Nat} (hi : i < gone.length) : W.cell? ⟨p, i, none⟩ = some (.bool (gone.getD i false)) := by
  have := h.o.cell (i := i) (by rw [bv_length]; exact hi)
  rwa [bv_getD _ hi] at this
theorem GN.fro (h : GN W S p n gone) (i : Nat) : W.frozen? ⟨p, i, none⟩ = false := h.o.frozen i
end
theorem vn_fa {M : Mst} {b : Nat} : Vn (faM M) b := Vn.none _ _ _
theorem vn_bl {M : Mst} {b : Nat} : Vn (blM M) b := Vn.none _ _ _
end Go.Proofs.YtjgafpkpoppcbaaGreatDoor
