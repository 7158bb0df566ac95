/- Rows of bytes that a call makes for itself: made, filled from a string, written, made a string. -/
import Derived.Test.YtlbjfigdocbffaaRows
import Derived.WalkKit
import Derived.Below
import Derived.Laws.AppendOwn
import Derived.OwnWalk
import Derived.Laws.IdiomStrings
import Derived.Laws.CopyRow
import Derived.Laws.Tables
import Derived.Lib.BufferWrite
import Derived.Deep.OwnRows
import Derived.Lib.Hide
namespace Go.Proofs.Ytlbjfigdocbffaa
open Go.RowKit
set_option linter.unusedVariables false
set_option linter.unusedSimpArgs false

def byteVal (b : UInt8) : Value := .int .u8 ((b.toNat : Nat) : Int)
def lineOf (l : List UInt8) : ByteArray := ⟨l.toArray⟩
theorem lineOf_size (l : List UInt8) : (lineOf l).size = l.length := by show (lineOf l).data.size = _; simp [lineOf]
theorem lineOf_list (s : ByteArray) : lineOf s.data.toList = s := rfl
theorem list_lineOf (l : List UInt8) : (lineOf l).data.toList = l := by simp [lineOf]
theorem Try.infoB : (Try.prog.info? 5).map (fun i => (i.zero, i.size, i.bytes)) = some (some (.int .u8 0), 1, 1) := by kernel_rfl
theorem Try.infoBs : (Try.prog.info? 5).map (·.size) = some 1 := by kernel_rfl

/-- Block g holds just the bytes l. -/
structure BRow (w : World) (g : Nat) (l : List UInt8) : Prop where
  blk : w.heap[g]? = some (.cells (l.map byteVal).toArray 5 (0, 0))
theorem BRow.lt {w : World} {g : Nat} {l : List UInt8} (h : BRow w g l) : g < w.heap.size := by
  rcases Nat.lt_or_ge g w.heap.size with h1 | h1
  · exact h1
  · have := h.blk; rw [Array.getElem?_eq_none h1] at this; cases this
theorem BRow.cell {w : World} {g : Nat} {l : List UInt8} (h : BRow w g l) {i : Nat} (hi : i < l.length) : w.cell? ⟨g, i, none⟩ = some (.int .u8 (((l.getD i 0).toNat : Nat) : Int)) := by
  simp only [World.cell?, h.blk]
  simp [byteVal, List.getD_eq_getElem?_getD, hi]
theorem BRow.frozen {w : World} {g : Nat} {l : List UInt8} (h : BRow w g l) (i : Nat) : w.frozen? ⟨g, i, none⟩ = false := by
  simp [World.frozen?, h.blk]
theorem BRow.drew {w : World} {g : Nat} {l : List UInt8} (h : BRow w g l) : BRow w.drew g l := ⟨h.blk⟩
theorem BRow.below {w w' : World} {B g : Nat} {l : List UInt8} (h : BRow w g l) (hb : Below B w w') (hg : g < B) : BRow w' g l := ⟨(hb.block g hg).trans h.blk⟩
theorem BRow.alloc {w : World} {g : Nat} {l : List UInt8} (h : BRow w g l) (o : Obj) : BRow (w.alloc o) g l := h.below ((Below.refl w.heap.size w).alloc (Nat.le_refl _) o) h.lt
theorem BRow.other {w : World} {g g' : Nat} {l : List UInt8} (h : BRow w g l) (hne : g ≠ g') (i : Nat) (v : Value) : BRow (w.setCell ⟨g', i, none⟩ v) g l :=
  ⟨(Below.heap_setCell w ⟨g', i, none⟩ v g hne).trans h.blk⟩
theorem BRow.set {w : World} {g : Nat} {l : List UInt8} (h : BRow w g l) {i : Nat} (hi : i < l.length) (b : UInt8) (v : Int) (hv : v = ((b.toNat : Nat) : Int)) : BRow (w.setCell ⟨g, i, none⟩ (.int .u8 v)) g (l.set i b) := by
  subst hv
  refine ⟨?_⟩
  have hb := h.blk
  simp [World.setCell, Array.getElem?_modify, hb, List.map_set, byteVal]
/-- What was made by 'make'. -/
theorem BRow.made (w : World) (n : Nat) : BRow (w.alloc (.cells (madeCells #[.int .u8 0] n) 5)) w.heap.size (List.replicate n 0) := by
  refine ⟨?_⟩
  rw [heap_alloc_new]
  congr 2
  apply Array.ext
  · simp [madeCells]
  · intro i h1 h2
    simp [madeCells, byteVal, Nat.mod_one]
theorem BRow.make_run (w : World) (n : Nat) (h : n ≤ 281474976710656) :
    ∃ w1, (Instr.makeSlice 86 (.int .i64 (n : Int)) (.int .i64 (n : Int))).run Try.prog w = .ok (.slice (some ⟨w.heap.size, 0, none⟩) n n) w1 ∧ BRow w1 w.heap.size (List.replicate n 0) ∧ Below w.heap.size w w1 ∧ w1.heap.size = w.heap.size + 1 :=
  ⟨_, run_make_row' 86 5 (.int .u8 0) 1 Try.underlying86 Try.infoB rfl .i64 .i64 n (by omega) (by omega) w, BRow.made w n, (Below.refl _ _).alloc (Nat.le_refl _) _, by simp⟩
/-- What is filled from a string, as far as there is room. -/
theorem BRow.copy_run {w : World} {g : Nat} {l : List UInt8} (h : BRow w g l) (s : ByteArray) (ty : TypeId) (cap : Nat) :
    ∃ w1, (Builtin.copy_ #[86, 9] ty #[.slice (some ⟨g, 0, none⟩) l.length cap, .string s]).run Try.prog w = .ok (goInt ((min s.size l.length : Nat) : Int)) w1 ∧
      BRow w1 g (s.data.toList.take l.length ++ l.drop s.size) ∧ (∀ B, B ≤ g → Below B w w1) ∧ (∀ k, k ≠ g → w1.heap[k]? = w.heap[k]?) := by
  have hg := h.blk
  have hlen : (Lib.byteCells (s.data.toList.take l.length)).length = min s.size l.length := by
    rw [Lib.byteCells_length, List.length_take, Nat.min_comm]; simp
  have hst := run_storeCells_at (P := Try.prog) g 0 5 (Lib.byteCells (s.data.toList.take l.length)) 0 _ w hg (by rw [hlen]; simp; omega) (Lib.byteCells_one _)
  rw [hlen] at hst
  simp only [Nat.zero_add, List.take_zero, List.nil_append] at hst
  have hs : (Try.prog.info? 5).map (·.size) = some 1 := Try.infoBs
  have htk : List.take (min s.size l.length) (List.map (fun b : UInt8 => Value.int IntKind.u8 (b.toNat : Int)) s.data.toList) = Lib.byteCells (s.data.toList.take l.length) := by
    rw [Lib.byteCells, ← List.map_take]
    refine congrArg (List.map _) ?_
    rcases Nat.le_total s.size l.length with h1 | h1
    · rw [Nat.min_eq_left h1, List.take_of_length_le (by simp), List.take_of_length_le (by simpa using h1)]
    · rw [Nat.min_eq_right h1]
  refine ⟨w.setRow g (Lib.byteCells (s.data.toList.take l.length) ++ (l.map byteVal).drop (min s.size l.length)).toArray, ?_, ⟨?_⟩, fun B hB => ?_, fun k hk => ?_⟩
  · cases hq : Try.prog.info? 5 with
    | none => simp [hq] at hs
    | some i =>
      simp [Builtin.copy_, run_underlying Try.underlying86, Builtin.lenOf, Builtin.firstCells, sizeOf, typeInfo, hq]
      rw [show Nat.min s.size l.length = min s.size l.length from rfl, htk, hst]
      simp [Result.andThen]
  · rw [setRow_heap w g _ _ 5 (0, 0) hg]
    refine congrArg (fun x : List Value => some (Obj.cells x.toArray 5 (0, 0))) ?_
    simp only [List.map_append]
    have e1 : Lib.byteCells (s.data.toList.take l.length) = (s.data.toList.take l.length).map byteVal := rfl
    rw [e1]
    refine congrArg (List.append _) ?_
    rcases Nat.le_total s.size l.length with h1 | h1
    · rw [Nat.min_eq_left h1]; simp
    · rw [Nat.min_eq_right h1, List.drop_of_length_le (by simp), List.drop_of_length_le (by omega)]; rfl
  · refine ⟨rfl, rfl, rfl, by simp [World.setRow], fun k hk => ?_⟩
    simp only [World.setRow, Array.getElem?_modify]
    rw [if_neg (by omega)]
  · simp only [World.setRow, Array.getElem?_modify]
    rw [if_neg (by omega)]
theorem addr_add (g j : Nat) : (⟨g, 0, none⟩ : Addr).add j = ⟨g, j, none⟩ := by simp [Addr.add]; intro h; exact h.symm
/-- What is made a string. -/
theorem BRow.str {w : World} {g : Nat} {l : List UInt8} (h : BRow w g l) (n cap : Nat) (hn : n = l.length) : (convert 86 9 (.slice (some ⟨g, 0, none⟩) n cap)).run Try.prog w = .ok (.string (lineOf l)) w := by
  subst hn
  refine run_convert_bytes_back (P := Try.prog) w 86 9 5 ⟨g, 0, none⟩ cap l Try.underlying86 Try.underlying5 Try.underlying9 (fun j hj => ?_)
  rw [addr_add, h.cell hj, List.getD_eq_getElem?_getD, List.getElem?_eq_getElem hj]; rfl

/-- Block g begins with the bytes l; it is what '[]byte(s)' makes: spare room, and the run-time's mark behind it. -/
structure MRow (w : World) (g C : Nat) (l : List UInt8) : Prop where
  blk : ∃ cur : Array Value, w.heap[g]? = some (.cells cur 5 (C, C + 1)) ∧ cur.size = C ∧ ∀ j, j < l.length → cur[j]? = some (.int .u8 (((l.getD j 0).toNat : Nat) : Int))
  room : l.length ≤ C
theorem MRow.lt {w : World} {g C : Nat} {l : List UInt8} (h : MRow w g C l) : g < w.heap.size := by
  obtain ⟨cur, hb, _⟩ := h.blk
  rcases Nat.lt_or_ge g w.heap.size with h1 | h1
  · exact h1
  · rw [Array.getElem?_eq_none h1] at hb; cases hb
theorem MRow.cell {w : World} {g C : Nat} {l : List UInt8} (h : MRow w g C l) {i : Nat} (hi : i < l.length) : w.cell? ⟨g, i, none⟩ = some (.int .u8 (((l.getD i 0).toNat : Nat) : Int)) := by
  obtain ⟨cur, hb, hC, hc⟩ := h.blk
  have := hc i hi
  simp only [World.cell?, hb]
  simpa using this
theorem MRow.frozen {w : World} {g C : Nat} {l : List UInt8} (h : MRow w g C l) {i : Nat} (hi : i < l.length) : w.frozen? ⟨g, i, none⟩ = false := by
  obtain ⟨cur, hb, hC, hc⟩ := h.blk
  have := h.room
  simp [World.frozen?, hb]
  omega
theorem MRow.drew {w : World} {g C : Nat} {l : List UInt8} (h : MRow w g C l) : MRow w.drew g C l := ⟨h.blk, h.room⟩
theorem MRow.below {w w' : World} {B g C : Nat} {l : List UInt8} (h : MRow w g C l) (hb : Below B w w') (hg : g < B) : MRow w' g C l := by
  obtain ⟨cur, h1, h2⟩ := h.blk
  exact ⟨⟨cur, (hb.block g hg).trans h1, h2⟩, h.room⟩
theorem MRow.set {w : World} {g C : Nat} {l : List UInt8} (h : MRow w g C l) {i : Nat} (hi : i < l.length) (b : UInt8) (v : Int) (hv : v = ((b.toNat : Nat) : Int)) : MRow (w.setCell ⟨g, i, none⟩ (.int .u8 v)) g C (l.set i b) := by
  subst hv
  obtain ⟨cur, hb, hC, hc⟩ := h.blk
  have hlt := h.lt
  refine ⟨⟨cur.setIfInBounds i (.int .u8 ((b.toNat : Nat) : Int)), ?_, by simpa using hC, fun j hj => ?_⟩, by rw [List.length_set]; exact h.room⟩
  · simp [World.setCell, Array.getElem?_modify, hb]
  · rw [List.length_set] at hj
    have hr := h.room
    rw [Array.getElem?_setIfInBounds, List.getD_eq_getElem?_getD, List.getElem?_set]
    by_cases e : i = j
    · subst e
      rw [if_pos rfl, if_pos (by omega), if_pos rfl, if_pos hi]; rfl
    · rw [if_neg e, if_neg e, hc j hj, List.getD_eq_getElem?_getD]
theorem MRow.make_run (w : World) (s : ByteArray) :
    ∃ cap w1 C, (convert 9 86 (.string s)).run Try.prog w = .ok (.slice (some ⟨w.heap.size, 0, none⟩) s.size cap) w1 ∧ MRow w1 w.heap.size C s.data.toList ∧ Below w.heap.size w w1 ∧ w1.heap.size = w.heap.size + 1 := by
  refine ⟨_, _, (bytesRow s (grownCap w s.size 0 5)).size, run_bytes_of_string (P := Try.prog) w 9 86 5 s Try.underlying9 Try.underlying86 Try.underlying5, ⟨⟨_, heap_alloc_new _ _, rfl, fun j hj => ?_⟩, ?_⟩, ((Below.refl _ _).drew).alloc (Nat.le_refl _) _, by simp⟩
  · rw [bytesRow_at s _ j (by simpa using hj), List.getD_eq_getElem?_getD, List.getElem?_eq_getElem hj]; rfl
  · simp [bytesRow]
theorem MRow.str {w : World} {g C : Nat} {l : List UInt8} (h : MRow w g C l) (n cap : Nat) (hn : n = l.length) : (convert 86 9 (.slice (some ⟨g, 0, none⟩) n cap)).run Try.prog w = .ok (.string (lineOf l)) w := by
  subst hn
  refine run_convert_bytes_back (P := Try.prog) w 86 9 5 ⟨g, 0, none⟩ cap l Try.underlying86 Try.underlying5 Try.underlying9 (fun j hj => ?_)
  rw [addr_add, h.cell hj, List.getD_eq_getElem?_getD, List.getElem?_eq_getElem hj]; rfl
end Go.Proofs.Ytlbjfigdocbffaa
