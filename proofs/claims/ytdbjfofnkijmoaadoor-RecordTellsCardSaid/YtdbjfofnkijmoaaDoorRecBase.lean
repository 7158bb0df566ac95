/- record: stripes, as they lie. -/
import Derived.Test.YtdbjfofnkijmoaaDoorSk
import Derived.Test.YtdbjfofnkijmoaaDoorSl4
import Derived.Test.YtdbjfofnkijmoaaDoorCls
import Derived.Test.YtdbjfofnkijmoaaDoorGeoWalk2
import Derived.Test.YtdbjfofnkijmoaaDoorRq
namespace Go.Proofs.YtdbjfofnkijmoaaDoor
open Go.RowKit
set_option linter.unusedVariables false
set_option linter.unusedSimpArgs false

def Tells (w : World) (v : Value) (e : Ending) (w' : World) : Prop := e = .returned v ∧ Below w.heap.size w w'
/-- A value of one cell, else nil. -/
def cell1 (v : Value) : Value := if v.oneCell' = true then v else .slice none 0 0
theorem cell1_one (v : Value) : (cell1 v).oneCell' = true := by
  unfold cell1; split
  · assumption
  · rfl
theorem cell1_slice (a : Option Addr) (n c : Nat) : cell1 (.slice a n c) = .slice a n c := if_pos (show (Value.slice a n c).oneCell' = true from rfl)
theorem Reads.isSlice {w : World} {v : Value} {xs : List Value} (h : Reads w v xs) : ∃ a c, v = .slice a xs.length c := by
  rcases h with ⟨⟨a, c, h1⟩, h2⟩ | ⟨b, off, cap, h1, _⟩
  · exact ⟨a, c, by rw [h1, h2]; rfl⟩
  · exact ⟨_, _, h1⟩
theorem Own.isSlice {w : World} {B : Nat} {E : TypeId} {v : Value} {xs : List Value} (h : Own w B E v xs) : ∃ a c, v = .slice a xs.length c := h.reads.isSlice
theorem cell1_of {w : World} {v : Value} {xs : List Value} (h : Reads w v xs) : cell1 v = v := by
  obtain ⟨a, c, rfl⟩ := h.isSlice
  exact cell1_slice _ _ _
/-- A stripe: its number, its data, and where they lie. -/
structure St where
  n : Int
  d : List ByteArray
  v : Value
instance : Inhabited St := ⟨⟨0, [], .nilFunc⟩⟩
def stE : Enc St where
  k := 2
  f := fun s => [.int .i64 s.n, cell1 s.v]
  pos := by decide
  len := fun _ => rfl
  one := fun a u hu => by
    simp only [List.mem_cons, List.not_mem_nil, or_false] at hu
    rcases hu with rfl | rfl
    · rfl
    · exact cell1_one _
/-- Its data lie so. -/
structure SOk (w : World) (s : St) : Prop where
  r : Reads w s.v (s.d.map .string)
  n : s.d.length ≤ 140737488355328
  z : ∀ t ∈ s.d, t.size ≤ 140737488355328
structure SAt (w : World) (b o : Nat) (s : St) : Prop where
  c0 : w.cell? ⟨b, o, none⟩ = some (.int .i64 s.n)
  c1 : w.cell? ⟨b, o + 1, none⟩ = some s.v
  lt : b < w.heap.size
theorem SOk.below {w w' : World} {s : St} (h : SOk w s) (hb : Below w.heap.size w w') : SOk w' s := ⟨h.r.below hb, h.n, h.z⟩
theorem SAt.below {w w' : World} {B b o : Nat} {s : St} (h : SAt w b o s) (hb : Below B w w') (hB : b < B) : SAt w' b o s :=
  ⟨(hb.cell (p := ⟨b, o, none⟩) hB).trans h.c0, (hb.cell (p := ⟨b, o + 1, none⟩) hB).trans h.c1, Nat.lt_of_lt_of_le h.lt hb.size⟩
/-- A list of stripes, as it lies. -/
def SReads (w : World) (v : Value) (l : List St) : Prop :=
  ∃ a cap, v = .slice a l.length cap ∧ ∀ i (hi : i < l.length), ∃ b o, a = some ⟨b, o, none⟩ ∧ SAt w b (o + i * 2) l[i] ∧ SOk w l[i]
theorem SReads.below {w w' : World} {v : Value} {l : List St} (h : SReads w v l) (hb : Below w.heap.size w w') : SReads w' v l := by
  obtain ⟨a, cap, e, g⟩ := h
  exact ⟨a, cap, e, fun i hi => by obtain ⟨b, o, e1, e2, e3⟩ := g i hi; exact ⟨b, o, e1, e2.below hb e2.lt, e3.below hb⟩⟩
theorem SReads.of {w : World} {v : Value} {l : List St} (h : ReadsE stE w v l) (hL : ∀ s ∈ l, SOk w s) : SReads w v l := by
  obtain ⟨a, cap, e, g⟩ := h.items
  refine ⟨a, cap, e, fun i hi => ?_⟩
  obtain ⟨b, o, e1, lt, c⟩ := g i hi
  have hl := hL l[i] (List.getElem_mem hi)
  refine ⟨b, o, e1, ?_, hl⟩
  have q : ∀ j, j < 2 → w.cell? ⟨b, o + i * 2 + j, none⟩ = (stE.f l[i])[j]? := fun j hj => by
    have := c j hj
    rw [← Nat.add_assoc] at this
    exact this
  exact ⟨q 0 (by decide), by rw [q 1 (by decide)]; exact congrArg some (cell1_of hl.r), lt⟩
namespace Rc
/-- The numbers rise, from behind last on, below top. -/
def incB (top : Int) : Int → List St → Bool
  | _, [] => true
  | last, s :: r => !(decide (s.n ≤ last)) && (!(decide (s.n ≥ top)) && incB top s.n r)
def txtB (d : List ByteArray) : Bool := d.all fun t => (t.size : Int) == 120
def stB (k : Int) (s : St) : Bool := ((s.d.length : Int) == k) && txtB s.d
/-- J1: what the head says. -/
def ordB (k m b q : Int) (l : List St) : Bool := gR k m b && (decide (1 ≤ q ∧ q ≤ 1099511627776) && (decide (1 ≤ l.length ∧ l.length ≤ 16) && incB (gStripes k m b) (-1) l))
/-- J1. -/
def rightB (k m b q : Int) (l : List St) : Bool := ordB k m b q l && l.all (stB k)
/-- What two records have to be the same. -/
def sameB (q : Int) (l : List St) (p : Int) (m : List St) : Bool := (q == p) && decide (l.map (fun s => (s.n, s.d)) = m.map (fun s => (s.n, s.d)))
end Rc
end Go.Proofs.YtdbjfofnkijmoaaDoor
