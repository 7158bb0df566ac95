/- What '[]byte(s)' makes: a row of bytes with spare room. -/
import Derived.Test.YtcmnojflllcdfaaDoorGfRLine
import Derived.Test.YtcmnojflllcdfaaDoorSl
import Derived.Laws.IdiomStrings
namespace Go.Proofs.YtcmnojflllcdfaaDoor
open Go.RowKit
set_option linter.unusedVariables false
set_option linter.unusedSimpArgs false

/-- Block g begins with the bytes l; it is what '[]byte(s)' makes: spare room, and the run-time's mark behind it. -/
structure MRow (w : World) (g C : Nat) (l : List UInt8) : Prop where
  blk : ∃ cur : Array Value, w.heap[g]? = some (.cells cur 5 (C, C + 1)) ∧ cur.size = C ∧ ∀ j, j < l.length → cur[j]? = some (.int .u8 (((l.getD j 0).toNat : Nat) : Int))
  room : l.length ≤ C
theorem MRow.lt {w : World} {g C : Nat} {l : List UInt8} (h : MRow w g C l) : g < w.heap.size := by
  obtain ⟨cur, hb, _⟩ := h.blk
  rcases Nat.lt_or_ge g w.heap.size with h1 | h1
  · exact h1
  · rw [Array.getElem?_eq_none h1] at hb; cases hb
theorem MRow.cell {w : World} {g C : Nat} {l : List UInt8} (h : MRow w g C l) {i : Nat} (hi : i < l.length) : w.cell? ⟨g, i, none⟩ = some (.int .u8 (((l.getD i 0).toNat : Nat) : Int)) := by
  obtain ⟨cur, hb, hC, hc⟩ := h.blk
  have := hc i hi
  simp only [World.cell?, hb]
  simpa using this
theorem MRow.frozen {w : World} {g C : Nat} {l : List UInt8} (h : MRow w g C l) {i : Nat} (hi : i < l.length) : w.frozen? ⟨g, i, none⟩ = false := by
  obtain ⟨cur, hb, hC, hc⟩ := h.blk
  have := h.room
  simp [World.frozen?, hb]
  omega
theorem MRow.drew {w : World} {g C : Nat} {l : List UInt8} (h : MRow w g C l) : MRow w.drew g C l := ⟨h.blk, h.room⟩
theorem MRow.below {w w' : World} {B g C : Nat} {l : List UInt8} (h : MRow w g C l) (hb : Below B w w') (hg : g < B) : MRow w' g C l := by
  obtain ⟨cur, h1, h2⟩ := h.blk
  exact ⟨⟨cur, (hb.block g hg).trans h1, h2⟩, h.room⟩
theorem MRow.set {w : World} {g C : Nat} {l : List UInt8} (h : MRow w g C l) {i : Nat} (hi : i < l.length) (b : UInt8) (v : Int) (hv : v = ((b.toNat : Nat) : Int)) : MRow (w.setCell ⟨g, i, none⟩ (.int .u8 v)) g C (l.set i b) := by
  subst hv
  obtain ⟨cur, hb, hC, hc⟩ := h.blk
  have hlt := h.lt
  refine ⟨⟨cur.setIfInBounds i (.int .u8 ((b.toNat : Nat) : Int)), ?_, by simpa using hC, fun j hj => ?_⟩, by rw [List.length_set]; exact h.room⟩
  · simp [World.setCell, Array.getElem?_modify, hb]
  · rw [List.length_set] at hj
    have hr := h.room
    rw [Array.getElem?_setIfInBounds, List.getD_eq_getElem?_getD, List.getElem?_set]
    by_cases e : i = j
    · subst e
      rw [if_pos rfl, if_pos (by omega), if_pos rfl, if_pos hi]; rfl
    · rw [if_neg e, if_neg e, hc j hj, List.getD_eq_getElem?_getD]
theorem MRow.make_run (w : World) (s : ByteArray) :
    ∃ cap w1 C, (convert 9 41 (.string s)).run Tryd.prog w = .ok (.slice (some ⟨w.heap.size, 0, none⟩) s.size cap) w1 ∧ MRow w1 w.heap.size C s.data.toList ∧ Below w.heap.size w w1 ∧ w1.heap.size = w.heap.size + 1 := by
  refine ⟨_, _, (bytesRow s (grownCap w s.size 0 5)).size, run_bytes_of_string (P := Tryd.prog) w 9 41 5 s Tryd.underlying9 Tryd.underlying41 Tryd.underlying5, ⟨⟨_, heap_alloc_new _ _, rfl, fun j hj => ?_⟩, ?_⟩, ((Below.refl _ _).drew).alloc (Nat.le_refl _) _, by simp⟩
  · rw [bytesRow_at s _ j (by simpa using hj), List.getD_eq_getElem?_getD, List.getElem?_eq_getElem hj]; rfl
  · simp [bytesRow]
theorem MRow.str {w : World} {g C : Nat} {l : List UInt8} (h : MRow w g C l) (n cap : Nat) (hn : n = l.length) : (convert 41 9 (.slice (some ⟨g, 0, none⟩) n cap)).run Tryd.prog w = .ok (.string (lineOf l)) w := by
  subst hn
  refine run_convert_bytes_back (P := Tryd.prog) w 41 9 5 ⟨g, 0, none⟩ cap l Tryd.underlying41 Tryd.underlying5 Tryd.underlying9 (fun j hj => ?_)
  rw [addr_at, Nat.zero_add, h.cell hj, List.getD_eq_getElem?_getD, List.getElem?_eq_getElem hj]; rfl
end Go.Proofs.YtcmnojflllcdfaaDoor
