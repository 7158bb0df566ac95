/- label: which label counts; plain. -/
import Derived.Test.YtaopknddpagjeaaDoorLabCnt
import Derived.Test.YtaopknddpagjeaaDoorLabBox
namespace Go.Proofs.YtaopknddpagjeaaDoor
open Go.RowKit
set_option linter.unusedVariables false
set_option linter.unusedSimpArgs false
open Lb

def gAt (l : List Fd) (i : Nat) : Int := match l[i]? with
  | some f => f.x.g
  | none => 0
theorem gAt_at {l : List Fd} {i : Nat} (h : i < l.length) : gAt l i = l[i].x.g := by unfold gAt; rw [List.getElem?_eq_getElem h]
def beats (l : List Fd) (k : Nat) : Option Nat → Bool
  | none => true
  | some b => decide (gAt l k > gAt l b)
/-- The best of the first k. -/
def bestTo (id : Int) (l : List Fd) : Nat → Option Nat
  | 0 => none
  | k + 1 => if cntB id l k && beats l k (bestTo id l k) then some k else bestTo id l k
theorem bestTo_no {id : Int} {l : List Fd} {k : Nat} (h : cntB id l k = false) : bestTo id l (k + 1) = bestTo id l k := by rw [bestTo, h]; rfl
theorem bestTo_first {id : Int} {l : List Fd} {k : Nat} (h : cntB id l k = true) (hb : bestTo id l k = none) : bestTo id l (k + 1) = some k := by rw [bestTo, h, hb]; rfl
theorem bestTo_more {id : Int} {l : List Fd} {k b : Nat} (h : cntB id l k = true) (hb : bestTo id l k = some b) (hg : gAt l k > gAt l b) : bestTo id l (k + 1) = some k := by
  rw [bestTo, h, hb, beats, decide_eq_true hg]; rfl
theorem bestTo_less {id : Int} {l : List Fd} {k b : Nat} (h : cntB id l k = true) (hb : bestTo id l k = some b) (hg : ¬ gAt l k > gAt l b) : bestTo id l (k + 1) = some b := by
  rw [bestTo, h, hb, beats, decide_eq_false hg]; rfl
theorem bestTo_lt {id : Int} {l : List Fd} : ∀ {k b : Nat}, bestTo id l k = some b → b < k ∧ cntB id l b = true
  | 0, b, h => by simp [bestTo] at h
  | k + 1, b, h => by
    rw [bestTo] at h
    split at h
    · rename_i hc
      obtain rfl : k = b := by simpa using h
      rw [Bool.and_eq_true] at hc
      exact ⟨Nat.lt_succ_self _, hc.1⟩
    · have := bestTo_lt h
      exact ⟨by omega, this.2⟩
def bestV : Option Nat → Int
  | none => -1
  | some b => (b : Int)
def geoB (x y : Lbl) : Bool := x.k == y.k && x.m == y.m && x.b == y.b
def useB (id : Int) (l : List Fd) (b i : Nat) : Bool :=
  cntB id l i && (match l[i]?, l[b]? with
    | some f, some g => geoB f.x g.x && (f.x.bo.getD i 0 == g.x.bo.getD i 0)
    | _, _ => false)
theorem useB_at {id : Int} {l : List Fd} {b i : Nat} (hb : b < l.length) (hi : i < l.length) : useB id l b i = (cntB id l i && (geoB l[i].x l[b].x && (l[i].x.bo.getD i 0 == l[b].x.bo.getD i 0))) := by
  unfold useB; rw [List.getElem?_eq_getElem hb, List.getElem?_eq_getElem hi]
def uses (id : Int) (l : List Fd) (b : Nat) : List Bool := (List.range l.length).map (useB id l b)
theorem uses_len (id : Int) (l : List Fd) (b : Nat) : (uses id l b).length = l.length := by simp [uses]
theorem uses_get (id : Int) (l : List Fd) (b i : Nat) (h : i < l.length) (d : Bool) : (uses id l b).getD i d = useB id l b i := by simp [uses, List.getD_eq_getElem?_getD, h]
def choL (id : Int) (l : List Fd) : Lbl := match bestTo id l l.length with
  | none => noLbl
  | some b => match l[b]? with
    | some f => f.x
    | none => noLbl
def choU (id : Int) (l : List Fd) : List Bool := match bestTo id l l.length with
  | none => []
  | some b => uses id l b
def choE (id : Int) (l : List Fd) : Int := match bestTo id l l.length with
  | none => 101
  | some _ => 0
/-- A label, flags and a number, in memory of the call's own. -/
def GivesC (w : World) (x : Lbl) (us : List Bool) (n : Int) (e : Ending) (w' : World) : Prop :=
  ∃ va vb vc vu, e = .returned (.tuple #[x.v va vb vc, vu, .int .i64 n]) ∧ O3 w' w.heap.size x va vb vc ∧ Own w' w.heap.size 4 vu (us.map .bool) ∧ Below w.heap.size w w'
/-- What counts is right, and has a place for each slot. -/
theorem cntB_true {id : Int} {l : List Fd} {i : Nat} (h : cntB id l i = true) : ∃ hi : i < l.length, l[i].has = true ∧ rightB l[i].x = true ∧ l[i].x.i = id ∧ l[i].x.s = (i : Int) ∧ (l.length : Int) = nS l[i].x := by
  have hi : i < l.length := by
    rcases Nat.lt_or_ge i l.length with h1 | h1
    · exact h1
    · unfold cntB at h; rw [List.getElem?_eq_none h1] at h; cases h
  rw [cntB_at hi] at h
  simp only [Bool.and_eq_true, beq_iff_eq] at h
  exact ⟨hi, h⟩
theorem cnt_lens {id : Int} {l : List Fd} {i : Nat} (h : cntB id l i = true) : ∃ hi : i < l.length, l[i].x.st.length = l.length ∧ l[i].x.bo.length = l.length ∧ l[i].x.cu.length = l.length ∧ l.length ≤ 7 := by
  obtain ⟨hi, _, hr, _, _, hn⟩ := cntB_true h
  have hR := (right_iff _).1 hr
  obtain ⟨n, hn', q1, q2, q3, _, q5⟩ := hR.nat
  exact ⟨hi, by omega, by omega, by omega, by omega⟩
/-- The flags of the first k. -/
def usTo (id : Int) (l : List Fd) (b k : Nat) : List Value := rowV l.length fun i => .bool (decide (i < k) && useB id l b i)
theorem usTo_zero (id : Int) (l : List Fd) (b : Nat) : List.replicate l.length (Value.bool false) = usTo id l b 0 := by rw [usTo, rowV_rep]; congr 1
theorem usTo_step (id : Int) (l : List Fd) (b k : Nat) : (usTo id l b k).set k (.bool (useB id l b k)) = usTo id l b (k + 1) := by
  refine rowV_set _ _ _ _ _ (by simp) fun j hj => ?_
  have : decide (j < k + 1) = decide (j < k) := by rw [decide_eq_decide]; omega
  rw [this]
theorem usTo_all (id : Int) (l : List Fd) (b : Nat) : usTo id l b l.length = (uses id l b).map .bool := by
  unfold usTo rowV uses
  rw [List.map_map]
  refine List.map_congr_left fun i hi => ?_
  have : i < l.length := by simpa using hi
  simp [this]
end Go.Proofs.YtaopknddpagjeaaDoor
