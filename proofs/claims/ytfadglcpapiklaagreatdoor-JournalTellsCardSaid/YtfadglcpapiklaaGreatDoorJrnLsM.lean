/- journal: JournalLoses, its maths. -/
import Derived.Test.YtfadglcpapiklaaGreatDoorJrnLo
namespace Go.Proofs.YtfadglcpapiklaaGreatDoor
open Go.RowKit
open Rc
set_option linter.unusedVariables false
set_option linter.unusedSimpArgs false
set_option maxRecDepth 100000

theorem infoBl12 : (Tryz.prog.info? 4).map (fun i => (i.zero, i.size, i.bytes)) = some (some (.bool false), 1, 1) := by kernel_rfl
/-- Flags of the slots of a list. -/
structure Nmd (n : Nat) (ins : List Bool) (sl : List Int) : Prop where
  len : ins.length = n
  iff : ∀ j, j < n → ins.getD j false = decide ((j : Int) ∈ sl)
  rng : ∀ x ∈ sl, 0 ≤ x ∧ x < (n : Int)
  nd : sl.Nodup
section
variable {n sec j : Nat} {ins dd : List Bool} {sl : List Int}
theorem Nmd.none (n : Nat) : Nmd n (List.replicate n false) [] := ⟨List.length_replicate, fun j hj => by
  rw [List.getD_eq_getElem?_getD, List.getElem?_replicate, if_pos hj]; simp, (fun x hx => by cases hx), List.nodup_nil⟩
theorem getD_set {l : List Bool} {j c : Nat} (h : j < l.length) (b : Bool) : (l.set j b).getD c false = if c = j then b else l.getD c false := by
  rw [List.getD_eq_getElem?_getD, List.getD_eq_getElem?_getD, List.getElem?_set]
  by_cases e : j = c
  · subst e; simp [h]
  · rw [if_neg e, if_neg (fun z => e z.symm)]
theorem Nmd.old (h : Nmd n ins sl) (hj : j < n) (hi : ins.getD j false = true) : Nmd n (ins.set j true) sl := by
  refine ⟨by rw [List.length_set]; exact h.len, fun c hc => ?_, h.rng, h.nd⟩
  rw [getD_set (by rw [h.len]; exact hj)]
  split
  · next e => rw [e, ← h.iff j hj]; exact hi.symm
  · exact h.iff c hc
theorem Nmd.new (h : Nmd n ins sl) (hj : j < n) (hi : ins.getD j false = false) : Nmd n (ins.set j true) (sl ++ [(j : Int)]) := by
  have hno : (j : Int) ∉ sl := fun z => by
    have := h.iff j hj
    rw [hi, decide_eq_true z] at this
    cases this
  refine ⟨by rw [List.length_set]; exact h.len, fun c hc => ?_, fun x hx => ?_, ?_⟩
  · rw [getD_set (by rw [h.len]; exact hj)]
    split
    · next e => rw [e]; simp
    · next e =>
      rw [h.iff c hc]
      have : ((c : Int) ∈ sl ++ [(j : Int)]) ↔ (c : Int) ∈ sl := by
        rw [List.mem_append, List.mem_singleton]
        exact ⟨fun z => z.resolve_right (fun y => e (by omega)), .inl⟩
      exact (decide_eq_decide.2 this).symm
  · rcases List.mem_append.1 hx with y | y
    · exact h.rng x y
    · rw [List.mem_singleton.1 y]; omega
  · rw [List.nodup_append]
    refine ⟨h.nd, by simp, fun a ha b hb e => hno ?_⟩
    rw [List.mem_singleton.1 hb] at e
    rw [← e]; exact ha
/-- A new rack, some of whose members have failed. -/
def deadR (sec : Nat) (dd : List Bool) : Rk := ⟨fun j => ⟨dd.getD j false, List.replicate sec zero128, noV⟩, false, 0, 0⟩
theorem deadR_nil : deadR sec (List.replicate n false) = R00 sec := by
  unfold deadR R00
  congr 1
  funext j
  have : (List.replicate n false).getD j false = false := by
    rw [List.getD_eq_getElem?_getD, List.getElem?_replicate]; split <;> rfl
  rw [this]
theorem deadR_set (hj : j < n) (hl : dd.length = n) : upR n (deadR sec dd) (j : Int) faM = deadR sec (dd.set j true) := by
  unfold upR
  rw [if_pos (hasK_nat hj), Int.toNat_natCast]
  show (⟨upd (deadR sec dd).M j (faM ((deadR sec dd).M j)), false, 0, 0⟩ : Rk) = _
  unfold deadR
  congr 1
  funext c
  unfold upd
  rw [getD_set (by omega)]
  split
  · next e =>
    show faM ⟨_, List.replicate sec zero128, noV⟩ = _
    unfold faM
    simp
  · rfl
theorem dead_up (h1 : 1 ≤ n) (h7 : n ≤ 7) : Up n sec (deadR sec dd) := ⟨rfl, rfl, h1, h7, fun _ _ => List.length_replicate⟩
theorem dead_zer : Zer n sec (deadR sec dd) := fun j hj c hc => top_zero (sec := sec) j c
theorem dead_take {sl : List Int} {R : Rk} {i : Nat} (hi : i < sl.length) : deadL R (sl.take (i + 1)) = if (R.M (sl[i]).toNat).fd = true then deadL R (sl.take i) ++ [sl[i]] else deadL R (sl.take i) := by
  unfold deadL
  rw [List.take_succ_eq_append_getElem hi, List.filter_append]
  by_cases h : (R.M (sl[i]).toNat).fd = true
  · rw [if_pos h, List.filter_cons_of_pos (by exact h)]; rfl
  · rw [if_neg h, List.filter_cons_of_neg (by exact h)]; simp
theorem dead_len {sl : List Int} {R : Rk} : (deadL R sl).length ≤ sl.length := List.length_filter_le _ _
end
section
variable {w wr w' : World} {S S' : Nat → Prop} {ka n g b p : Nat} {K M B q : Int} {v : Value} {l : List St} {R : Rk}
/-- A cell of the law's own that is none of all that. -/
theorem RW.put (h : RW w S wr ka n g b K M B q v l R) (hp : w.heap.size ≤ p) (hg : g ≠ p) (hb : b ≠ p) (hS : ¬ S p) (hl : ∀ y, (v.ownBlock = some y ∨ ∃ s ∈ l, s.v.ownBlock = some y) → y ≠ p) (i : Nat) (u : Value) : RW w S (wr.setCell ⟨p, i, none⟩ u) ka n g b K M B q v l R :=
  ⟨h.jw.put hp hg hS i u, h.rb.heap (heap_put wr hb i u) (by simp), h.bn, ⟨h.rl.r.kept (by simp) fun y hy _ => heap_put wr (hl y hy) i u, fun y hy => ⟨by simpa using (h.rl.n y hy).1, (h.rl.n y hy).2⟩⟩⟩
end
end Go.Proofs.YtfadglcpapiklaaGreatDoor
