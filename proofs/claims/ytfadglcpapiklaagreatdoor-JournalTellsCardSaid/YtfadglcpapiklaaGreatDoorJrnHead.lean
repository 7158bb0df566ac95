/- journal: the laws' head. -/
import Derived.Test.YtfadglcpapiklaaGreatDoorJrnAw
import Derived.Test.YtfadglcpapiklaaGreatDoorLrecc
namespace Go.Proofs.YtfadglcpapiklaaGreatDoor
open Go.RowKit
open Rc
set_option linter.unusedVariables false
set_option linter.unusedSimpArgs false
set_option maxRecDepth 100000

/-- A raw record in a box. -/
structure RwB (w : World) (p : Nat) (r : Raw) (vs vl : Value) : Prop where
  a0 : w.cell? ⟨p, 0, none⟩ = some (.int .i64 r.k)
  a1 : w.cell? ⟨p, 1, none⟩ = some (.int .i64 r.m)
  a2 : w.cell? ⟨p, 2, none⟩ = some (.int .i64 r.b)
  a3 : w.cell? ⟨p, 3, none⟩ = some (.int .i64 r.q)
  a4 : w.cell? ⟨p, 4, none⟩ = some vs
  a5 : w.cell? ⟨p, 5, none⟩ = some vl
  lt : p < w.heap.size
theorem RwB.made (w : World) (r : Raw) (vs vl : Value) (T : TypeId) : RwB (w.alloc (.cells #[.int .i64 r.k, .int .i64 r.m, .int .i64 r.b, .int .i64 r.q, vs, vl] T)) w.heap.size r vs vl :=
  ⟨by rw [World.cell?_alloc_mark]; rfl, by rw [World.cell?_alloc_mark]; rfl, by rw [World.cell?_alloc_mark]; rfl, by rw [World.cell?_alloc_mark]; rfl, by rw [World.cell?_alloc_mark]; rfl, by rw [World.cell?_alloc_mark]; rfl, by simp⟩
theorem RwB.heap {w w' : World} {p : Nat} {r : Raw} {vs vl : Value} (h : RwB w p r vs vl) (e : w'.heap[p]? = w.heap[p]?) (hs : w.heap.size ≤ w'.heap.size) : RwB w' p r vs vl :=
  ⟨(cell_of_heap e _).trans h.a0, (cell_of_heap e _).trans h.a1, (cell_of_heap e _).trans h.a2, (cell_of_heap e _).trans h.a3, (cell_of_heap e _).trans h.a4, (cell_of_heap e _).trans h.a5, Nat.lt_of_lt_of_le h.lt hs⟩
theorem RwB.below {w w' : World} {C p : Nat} {r : Raw} {vs vl : Value} (h : RwB w p r vs vl) (hb : Below C w w') (hp : p < C) : RwB w' p r vs vl := h.heap (hb.block p hp) hb.size
theorem right_reads {K M B q : Int} {l : List St} (hr : rightB K M B q l = true) : ∀ s ∈ l, s.d.length ≤ 140737488355328 ∧ ∀ t ∈ s.d, t.size ≤ 140737488355328 := fun s hs => by
  have hf := right_f hr
  have hk := hf.k
  exact ⟨by have := hf.d s hs; omega, fun t ht => by have := hf.z s hs t ht; omega⟩
theorem rlay_right {w : World} {K M B q : Int} {v : Value} {l : List St} (hl : SReads w v l) (hn : l.length ≤ 140737488351232) (hr : rightB K M B q l = true) :
    Calls Tryz.prog 26 #[.agg #[.int .i64 K, .int .i64 M, .int .i64 B], .agg #[.int .i64 q, v]] w fun e w' => ∃ u, e = .returned (.tuple #[.string (layS q l), u, .int .i64 0]) ∧ Own w' w.heap.size 9 u ((allT l).map .string) ∧ Below w.heap.size w w' :=
  (rlay_any K M B q v l w hl hn).mono fun e w' h => by
    unfold GivesL11 at h
    rw [hr] at h
    exact h
theorem gm_fit (r : Raw) : ∃ n sec k m : Nat, fK11 r.k = (k : Int) ∧ fM11 r.m = (m : Int) ∧ Gm n sec k m (fB11 r.b) := by
  have h := fit_right11 r.k r.m r.b
  have hk := k_cases h
  have h1 := sectors_eq h
  have hd := div_rng (K := fK11 r.k) (B := fB11 r.b) (by omega) ⟨hk.2.2.1, hk.2.2.2⟩
  have hm := div_lt h (A := 0) (by omega) (by omega)
  have hs : 0 ≤ gSectors (fK11 r.k) (fM11 r.m) (fB11 r.b) := by
    rcases hk.1 with e | e | e | e <;> rw [e] at h1 ⊢ <;> omega
  obtain ⟨k, ek⟩ := Int.eq_ofNat_of_zero_le (show 0 ≤ fK11 r.k by omega)
  obtain ⟨m, em⟩ := Int.eq_ofNat_of_zero_le (show 0 ≤ fM11 r.m by omega)
  obtain ⟨s, es⟩ := Int.eq_ofNat_of_zero_le hs
  refine ⟨k + m, s, k, m, ek, em, ?_⟩
  rw [ek, em] at h es
  exact ⟨h, rfl, es⟩
theorem two_boxes2 (w : World) (c d : Array Value) (S T : TypeId) :
    ((w.alloc (.cells c S)).alloc (.cells d T)).heap[w.heap.size]? = some (.cells c S) ∧ ((w.alloc (.cells c S)).alloc (.cells d T)).heap[w.heap.size + 1]? = some (.cells d T) ∧ Below w.heap.size w ((w.alloc (.cells c S)).alloc (.cells d T)) ∧ ((w.alloc (.cells c S)).alloc (.cells d T)).heap.size = w.heap.size + 1 + 1 := by
  have e : (w.alloc (.cells c S)).heap.size = w.heap.size + 1 := by simp
  have h1 := heap_alloc_new w (.cells c S)
  have h2 := heap_alloc_new (w.alloc (.cells c S)) (.cells d T)
  rw [e] at h2
  have b1 : Below w.heap.size w (w.alloc (.cells c S)) := (Below.refl _ _).alloc (Nat.le_refl _) _
  have b2 : Below (w.heap.size + 1) (w.alloc (.cells c S)) ((w.alloc (.cells c S)).alloc (.cells d T)) := (Below.refl _ _).alloc (by omega) _
  exact ⟨(b2.block _ (by omega)).trans h1, h2, b1.trans (b2.mono (by omega)), by simp⟩
theorem rw_new {w4 w5 : World} {S : Nat → Prop} {ka n g b : Nat} {K M B q : Int} {v : Value} {l : List St} {R : Rk} (h : RA w4 S w5 ka n R) (gb : w4.heap[g]? = some (.cells #[.int .i64 K, .int .i64 M, .int .i64 B] 23 (0, 0))) (rb : RBx w4 b q v) (rl : SReads w4 v l) (old : ∀ y, (v.ownBlock = some y ∨ ∃ s ∈ l, s.v.ownBlock = some y) → y < w4.heap.size) : RW w4 S w5 ka n g b K M B q v l R := by
  have hgl := (Array.getElem?_eq_some_iff.1 gb).1
  have hs := h.b.size
  refine ⟨⟨h, (h.b.block g hgl).trans gb, fun z => by have := RA.from h g z; omega⟩, rb.heap (h.b.block b rb.lt) hs, fun z => by have := RA.from h b z; have := rb.lt; omega, rl.below h.b, fun y hy => ⟨by have := old y hy; omega, fun z => by have := RA.from h y z; have := old y hy; omega⟩⟩
end Go.Proofs.YtfadglcpapiklaaGreatDoor
