/- journal: what is told behind a Put, and the worlds of the laws. -/
import Derived.Test.YtfadglcpapiklaaGreatDoorJrnHelp
import Derived.Test.YtfadglcpapiklaaGreatDoorJrnPut
namespace Go.Proofs.YtfadglcpapiklaaGreatDoor
open Go.RowKit
open Rc
set_option linter.unusedVariables false
set_option linter.unusedSimpArgs false
set_option maxRecDepth 100000

section
variable {n sec k m i : Nat} {R R' : Rk} {B q : Int} {ss : List St} {l : List Int}
theorem last_all {id : Int} (h : Gm n sec k m B) (hU : Up n sec R) (i1 : 1 ≤ i) (i2 : i ≤ 65535) (hl : ∀ x ∈ l, 0 ≤ x ∧ x < (n : Int)) (hnd : l.Nodup) : laM n R (i : Int) (k : Int) (m : Int) B l = (bestM n R (i : Int) (k : Int) (m : Int) B l, 0) := by
  unfold laM
  rw [if_pos ⟨h.fits hU i1 i2, right_list hl hnd⟩, if_neg (by rw [hU.off]; decide)]
theorem best_only {id K M : Int} {y : RecM} (h1 : ∀ x ∈ l, ∀ c, c < 2 → bayM n R id K M B x c = none ∨ bayM n R id K M B x c = some y) (h2 : ∃ x ∈ l, ∃ c, c < 2 ∧ bayM n R id K M B x c = some y) : bestM n R id K M B l = some y := by
  rcases best_is (n := n) (R := R) (K := K) (M := M) (B := B) id l with ⟨e, hn⟩ | ⟨z, e, ⟨x, hx, c, hc, hz⟩, _⟩
  · exact absurd h2 (hn y)
  · rcases h1 x hx c hc with z1 | z1
    · rw [z1] at hz; cases hz
    · rw [z1] at hz; cases hz; exact e
theorem best_no {id K M : Int} (h1 : ∀ x ∈ l, ∀ c, c < 2 → bayM n R id K M B x c = none) : bestM n R id K M B l = none := by
  rcases best_is (n := n) (R := R) (K := K) (M := M) (B := B) id l with ⟨e, hn⟩ | ⟨z, e, ⟨x, hx, c, hc, hz⟩, _⟩
  · exact e
  · rw [h1 x hx c hc] at hz; cases hz
/-- Nothing was ever written. -/
def Zer (n sec : Nat) (R : Rk) : Prop := ∀ j, j < n → ∀ c, c < sec → topM (R.M j) c = zero128
theorem zer_00 (n sec : Nat) : Zer n sec (R00 sec) := fun j _ c _ => top_zero j c
theorem bay_zero (hG : Gm n sec k m B) (hU : Up n sec R) {j c : Nat} (hj : j < n) (hc : c < 2) (hz : (R.M j).fd = false → topM (R.M j) (bayN k c) = zero128) (id : Int) : bayM n R id (k : Int) (m : Int) B (j : Int) c = none := by
  refine cand_none hG hc ?_
  rcases Bool.eq_false_or_eq_true (R.M j).fd with hd | hd
  · exact dead_shut hU.off hj hd id _
  · have hs := (bay_in hG c).1
    exact zero_bay hU.off hj hd (by rw [hU.l j hj]; omega) (hz hd) id
theorem put_tell (hG : Gm n sec k m B) (hU : Up n sec R) (hr : rightB (k : Int) (m : Int) B q ss = true) (i1 : 1 ≤ i) (i2 : i ≤ 65535) (hZ : Zer n sec R) (hP : PutTo n sec k i q ss l R R') {j c : Nat} (hj : j < n) (hc : c < 2) :
    bayM n R' (i : Int) (k : Int) (m : Int) B (j : Int) c = if ((j : Int) ∈ l ∧ (R.M j).fd = false) ∧ c = (q % 2).toNat then some (q, ss.map pr) else none := by
  have hb := body_len hG hr
  have hin := (bay_in hG c).1
  by_cases h1 : (j : Int) ∈ l ∧ (R.M j).fd = false
  · obtain ⟨b1, b2, b3⟩ := hP.bay j hj h1.1 h1.2
    by_cases h2 : c = (q % 2).toNat
    · rw [if_pos ⟨h1, h2⟩]
      exact cand_at hG hP.u hr i1 i2 hj b1 h2
    · rw [if_neg (fun z => h2 z.2)]
      refine bay_zero hG hP.u hj hc (fun _ => ?_) _
      have ha := bay_apart (k := k) c (q % 2).toNat 0 hc (by omega) h2 (by omega)
      rw [b3 _ (by omega) (by omega)]
      exact hZ j hj _ (by omega)
  · rw [if_neg (fun z => h1 z.1)]
    have e := hP.oth j (by
      rcases Classical.em ((j : Int) ∈ l) with z | z
      · right
        rcases Bool.eq_false_or_eq_true (R.M j).fd with y | y
        · exact y
        · exact absurd ⟨z, y⟩ h1
      · exact .inl z)
    refine bay_zero hG hP.u hj hc (fun hal => ?_) _
    rw [e]
    exact hZ j hj _ (by omega)
end
theorem SReads.kept {w w' : World} {v : Value} {l : List St} (h : SReads w v l) (hs : w.heap.size ≤ w'.heap.size) (e : ∀ q, (v.ownBlock = some q ∨ ∃ s ∈ l, s.v.ownBlock = some q) → q < w.heap.size → w'.heap[q]? = w.heap[q]?) : SReads w' v l := by
  obtain ⟨a, cap, rfl, g⟩ := h
  refine ⟨a, cap, rfl, fun i hi => ?_⟩
  obtain ⟨b, o, rfl, e2, e3⟩ := g i hi
  have hb := e b (.inl rfl) e2.lt
  refine ⟨b, o, rfl, ⟨(cell_of_heap hb _).trans e2.c0, (cell_of_heap hb _).trans e2.c1, Nat.lt_of_lt_of_le e2.lt hs⟩, ⟨e3.r.kept hs fun q hq hlt => e q (.inr ⟨_, List.getElem_mem hi, hq⟩) hlt, e3.n, e3.z⟩⟩
/-- A record's stripes, in blocks that are no rack's. -/
structure RLs (wr : World) (S : Nat → Prop) (v : Value) (l : List St) : Prop where
  r : SReads wr v l
  n : ∀ q, (v.ownBlock = some q ∨ ∃ s ∈ l, s.v.ownBlock = some q) → q < wr.heap.size ∧ ¬ S q
section
variable {w wr w' : World} {S S' : Nat → Prop} {v : Value} {l : List St}
theorem RLs.stp (h : RLs wr S v l) (hs : Stp S S' wr w') : RLs w' S' v l :=
  ⟨h.r.kept hs.b0.size fun q hq hlt => hs.oth q hlt (h.n q hq).2, fun q hq => ⟨Nat.lt_of_lt_of_le (h.n q hq).1 hs.b0.size, fun hq2 => by
    rcases hs.grow q hq2 with z | z
    · exact (h.n q hq).2 z
    · have := (h.n q hq).1; omega⟩⟩
theorem RLs.after (h : RLs wr S v l) (hb : Below wr.heap.size wr w') : RLs w' S v l := h.stp (Stp.quiet hb)
theorem RLs.of (h : SFam wr w.heap.size v l) (hl : ∀ s ∈ l, s.d.length ≤ 140737488355328 ∧ ∀ t ∈ s.d, t.size ≤ 140737488355328) (hS : ∀ q, S q → q < w.heap.size) : RLs wr S v l :=
  ⟨h.reads hl, fun q hq => by
    have hx : w.heap.size ≤ q ∧ q < wr.heap.size := by
      rcases hq with hq | ⟨s, hs, hq⟩
      · exact h.old v (.inl rfl) q hq
      · exact h.old s.v (.inr ⟨s, hs, rfl⟩) q hq
    exact ⟨hx.2, fun z => by have := hS q z; omega⟩⟩
end
/-- A rack, a geometry and a record. -/
structure RW (w : World) (S : Nat → Prop) (wr : World) (ka n g b : Nat) (K M B q : Int) (v : Value) (l : List St) (R : Rk) : Prop where
  jw : JW w S wr ka n g K M B R
  rb : RBx wr b q v
  bn : ¬ S b
  rl : RLs wr S v l
section
variable {w wr w' : World} {S S' : Nat → Prop} {ka n g b : Nat} {K M B q : Int} {v : Value} {l : List St} {R R' : Rk}
theorem RW.stp (h : RW w S wr ka n g b K M B q v l R) (hs : Stp S S' wr w') (ha : RA w S' w' ka n R') : RW w S' w' ka n g b K M B q v l R' :=
  ⟨h.jw.stp hs ha, h.rb.heap (hs.oth b h.rb.lt h.bn) hs.b0.size, fun hb => by
    rcases hs.grow b hb with z | z
    · exact h.bn z
    · have := h.rb.lt; omega, h.rl.stp hs⟩
theorem RW.after (h : RW w S wr ka n g b K M B q v l R) (hb : Below wr.heap.size wr w') : RW w S w' ka n g b K M B q v l R := h.stp (Stp.quiet hb) (h.jw.ra.after hb)
theorem RW.cells (h : RW w S wr ka n g b K M B q v l R) : (wr.cell? ⟨g, 0, none⟩ = some (.int .i64 K) ∧ wr.cell? ⟨g, 1, none⟩ = some (.int .i64 M) ∧ wr.cell? ⟨g, 2, none⟩ = some (.int .i64 B)) ∧ wr.cell? ⟨b, 0, none⟩ = some (.int .i64 q) ∧ wr.cell? ⟨b, 1, none⟩ = some v := ⟨h.jw.cells, h.rb.c0, h.rb.c1⟩
end
/-- What Put answers, with the rack behind it. -/
theorem put_law {w wr : World} {S : Nat → Prop} {ka n k m sec i : Nat} {R R' : Rk} {B q : Int} {v vl : Value} {ss : List St} {l : List Int} {c : Nat} (ha : RA w S wr ka n R) (hk : ROk n R c) (hc : c ≤ 900000000000) (hv : LsN wr S vl l) (hcap : capOk vl) (hl : l.length ≤ 1000) (hs : SReads wr v ss) (hsn : ss.length ≤ 140737488351232) (hq : q ≤ 9223372036854775807) (e : puM n R (i : Int) (k : Int) (m : Int) B l q ss = (R', deadL R l, 0)) :
    Calls Tryz.prog 13 #[.pointer (some ⟨ka, 0, none⟩), .int .i64 (i : Int), .agg #[.int .i64 (k : Int), .int .i64 (m : Int), .int .i64 B], vl, .agg #[.int .i64 q, v]] wr (EDoes w S wr ka n (R', deadL R l, 0)) := by
  have := put_any ha c hk (i : Int) (k : Int) (m : Int) B q vl v l ss hv hcap hl hc hs hsn hq
  rw [e] at this
  exact this
theorem best_law {w wr : World} {S : Nat → Prop} {ka n k m sec i : Nat} {R : Rk} {B : Int} {vl : Value} {l : List Int} (hG : Gm n sec k m B) (hU : Up n sec R) (i1 : 1 ≤ i) (i2 : i ≤ 65535) (ha : RA w S wr ka n R) (hk : ROk n R 1000000000000) (hv : LsN wr S vl l) (hcap : capOk vl) (hl : l.length ≤ 1000) (hin : ∀ x ∈ l, 0 ≤ x ∧ x < (n : Int)) (hnd : l.Nodup) :
    Calls Tryz.prog 19 #[.pointer (some ⟨ka, 0, none⟩), .int .i64 (i : Int), .agg #[.int .i64 (k : Int), .int .i64 (m : Int), .int .i64 B], vl] wr (LastTo wr (bestM n R (i : Int) (k : Int) (m : Int) B l, 0)) := by
  have := last_any ha hk (i : Int) (k : Int) (m : Int) B vl l hv hcap hl
  rw [last_all (id := 0) hG hU i1 i2 hin hnd] at this
  exact this
end Go.Proofs.YtfadglcpapiklaaGreatDoor
