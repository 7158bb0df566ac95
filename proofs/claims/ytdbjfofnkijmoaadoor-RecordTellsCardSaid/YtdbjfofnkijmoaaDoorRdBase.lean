/- Readers: what they are; the calls that take nothing. -/
import Derived.Test.YtdbjfofnkijmoaaDoorPackFill
import Derived.Test.YtdbjfofnkijmoaaDoorSl
import Derived.Deep.RegionWith
import Derived.BigQuiet
import Derived.Deep.QuietTactic
import Derived.Lib.TrimByte
namespace Go.Proofs.YtdbjfofnkijmoaaDoor
open Go.RowKit
set_option linter.unusedVariables false
set_option linter.unusedSimpArgs false

/-- A reader at block b: what is left, and whether it is bad. -/
structure RdAt (w : World) (b : Nat) (s : ByteArray) (bad : Bool) : Prop where
  c0 : w.cell? ⟨b, 0, none⟩ = some (.string s)
  c1 : w.cell? ⟨b, 1, none⟩ = some (.bool bad)
  f0 : w.frozen? ⟨b, 0, none⟩ = false
  f1 : w.frozen? ⟨b, 1, none⟩ = false
  lt : b < w.heap.size
theorem RdAt.below {w w' : World} {b B : Nat} {s : ByteArray} {bad : Bool} (h : RdAt w b s bad) (hb : Below B w w') (hB : b < B) : RdAt w' b s bad :=
  ⟨by rw [hb.cell (p := ⟨b, 0, none⟩) hB]; exact h.c0, by rw [hb.cell (p := ⟨b, 1, none⟩) hB]; exact h.c1, by rw [hb.frozen (p := ⟨b, 0, none⟩) hB]; exact h.f0, by rw [hb.frozen (p := ⟨b, 1, none⟩) hB]; exact h.f1, Nat.lt_of_lt_of_le h.lt hb.size⟩
theorem RdAt.made (w : World) (s : ByteArray) (T : TypeId) : RdAt (w.alloc (.cells #[.string s, .bool false] T)) w.heap.size s false :=
  ⟨by rw [World.cell?_alloc_mark]; rfl, by rw [World.cell?_alloc_mark]; rfl, frozen_of_row _ _ _ _ _ (heap_alloc_new _ _), frozen_of_row _ _ _ _ _ (heap_alloc_new _ _), by simp⟩
/-- The reader at b is turned, and nothing else that was there. -/
structure RdTo (w : World) (b : Nat) (s : ByteArray) (bad : Bool) (w' : World) : Prop where
  keep : ∀ B, B ≤ b → B ≤ w.heap.size → Below B w w'
  oth : ∀ k, k < w.heap.size → k ≠ b → w'.heap[k]? = w.heap[k]?
  r : RdAt w' b s bad
theorem RdTo.below {B : Nat} {w w' : World} {b : Nat} {s : ByteArray} {bad : Bool} (h : RdTo w b s bad w') (hB : B ≤ b) (hw : B ≤ w.heap.size) : Below B w w' := h.keep B hB hw
theorem RdTo.size {w w' : World} {b : Nat} {s : ByteArray} {bad : Bool} (h : RdTo w b s bad w') : w.heap.size ≤ w'.heap.size := (h.keep 0 (Nat.zero_le _) (Nat.zero_le _)).size
theorem RdTo.trans {w w1 w2 : World} {b : Nat} {s t : ByteArray} {bad bad' : Bool} (h : RdTo w b s bad w1) (k : RdTo w1 b t bad' w2) : RdTo w b t bad' w2 :=
  ⟨fun B h1 h2 => (h.keep B h1 h2).trans (k.keep B h1 (Nat.le_trans h2 h.size)), fun i hi hne => (k.oth i (Nat.lt_of_lt_of_le hi h.size) hne).trans (h.oth i hi hne), k.r⟩
theorem RdTo.below_after {w w1 w2 : World} {b : Nat} {s : ByteArray} {bad : Bool} (h : RdTo w b s bad w1) (k : Below w1.heap.size w1 w2) : RdTo w b s bad w2 :=
  ⟨fun B h1 h2 => (h.keep B h1 h2).trans (k.mono (Nat.le_trans h2 h.size)), fun i hi hne => (k.block i (Nat.lt_of_lt_of_le hi h.size)).trans (h.oth i hi hne), h.r.below k h.r.lt⟩
theorem drew_below (w : World) (n : Nat) : Below w.heap.size w (w.drewN n) := (Below.refl w.heap.size w).trans ⟨rfl, rfl, rfl, Nat.le_refl _, fun _ _ => rfl⟩
theorem RdAt.refl {w : World} {b : Nat} {s : ByteArray} {bad : Bool} (h : RdAt w b s bad) : RdTo w b s bad w := ⟨fun B _ _ => Below.refl _ _, fun _ _ _ => rfl, h⟩
theorem RdAt.set0 {w : World} {b : Nat} {s : ByteArray} {bad : Bool} (h : RdAt w b s bad) (t : ByteArray) : RdTo w b t bad (w.setCell ⟨b, 0, none⟩ (.string t)) :=
  ⟨fun B h1 _ => (Below.refl B w).setCell (p := ⟨b, 0, none⟩) h1 _, fun i hi hne => Below.heap_setCell _ _ _ _ (by simpa using hne),
    ⟨World.cell?_setCell_same' w _ _ (by rw [h.c0]; rfl), by rw [World.cell?_setCell_other w _ _ _ (by simp)]; exact h.c1, by rw [World.frozen?_setCell]; exact h.f0, by rw [World.frozen?_setCell]; exact h.f1, by simpa using h.lt⟩⟩
theorem RdAt.set1 {w : World} {b : Nat} {s : ByteArray} {bad : Bool} (h : RdAt w b s bad) (x : Bool) : RdTo w b s x (w.setCell ⟨b, 1, none⟩ (.bool x)) :=
  ⟨fun B h1 _ => (Below.refl B w).setCell (p := ⟨b, 1, none⟩) h1 _, fun i hi hne => Below.heap_setCell _ _ _ _ (by simpa using hne),
    ⟨by rw [World.cell?_setCell_other w _ _ _ (by simp)]; exact h.c0, World.cell?_setCell_same' w _ _ (by rw [h.c1]; rfl), by rw [World.frozen?_setCell]; exact h.f0, by rw [World.frozen?_setCell]; exact h.f1, by simpa using h.lt⟩⟩
theorem cell_of_heap {w w' : World} {k : Nat} (h : w'.heap[k]? = w.heap[k]?) (o : Nat) : w'.cell? ⟨k, o, none⟩ = w.cell? ⟨k, o, none⟩ := by simp only [World.cell?, h]
theorem frozen_of_heap {w w' : World} {k : Nat} (h : w'.heap[k]? = w.heap[k]?) (o : Nat) : w'.frozen? ⟨k, o, none⟩ = w.frozen? ⟨k, o, none⟩ := by simp only [World.frozen?, h]
theorem RdAt.other {w w' : World} {b c : Nat} {s t : ByteArray} {bad bad' : Bool} (h : RdAt w c t bad') (hr : RdTo w b s bad w') (hne : c ≠ b) : RdAt w' c t bad' := by
  have e := hr.oth _ h.lt hne
  exact ⟨by rw [cell_of_heap e]; exact h.c0, by rw [cell_of_heap e]; exact h.c1, by rw [frozen_of_heap e]; exact h.f0, by rw [frozen_of_heap e]; exact h.f1, Nat.lt_of_lt_of_le h.lt hr.size⟩
theorem new_any (s : ByteArray) (w : World) : Calls Tryd.prog 51 #[.string s] w fun e w' => e = .returned (.pointer (some ⟨w.heap.size, 0, none⟩)) ∧ w' = w.alloc (.cells #[.string s, .bool false] 88) := by
  go_enter Tryd.func51, Tryd.ntmps51
  go_wp2
  go_ret
  exact ⟨rfl, rfl⟩
/-- May n bytes be taken? -/
def rdy (s : ByteArray) (bad : Bool) (n : Int) (al : Bool) : Bool := !bad && (al && decide (n ≤ (s.size : Int)))
set_option maxHeartbeats 1000000 in
theorem ready_any (b : Nat) (s : ByteArray) (bad : Bool) (n : Int) (al : Bool) (w : World) (h : RdAt w b s bad) :
    Calls Tryd.prog 66 #[.pointer (some ⟨b, 0, none⟩), .int .i64 n, .bool al] w fun e w' => e = .returned (.bool (rdy s bad n al)) ∧ w' = w.setCell ⟨b, 1, none⟩ (.bool (!rdy s bad n al)) := by
  have c0 := h.c0
  have c1 := h.c1
  have f1 := h.f1
  have hs : (w.setCell ⟨b, 1, none⟩ (.bool (!rdy s bad n al))).cell? ⟨b, 1, none⟩ = some (.bool (!rdy s bad n al)) := World.cell?_setCell_same' w _ _ (by rw [c1]; rfl)
  cases bad with
  | true =>
    have hz : Hid (rdy s true n al = false) := Lib.hid rfl
    rw [hz.out] at hs
    go_enter Tryd.func66, Tryd.ntmps66
    go_wp2
    go_ret
    exact ⟨by rw [hz.out]; rfl, by rw [hz.out]; rfl⟩
  | false =>
    cases al with
    | false =>
      have hz : Hid (rdy s false n false = false) := Lib.hid rfl
      rw [hz.out] at hs
      go_enter Tryd.func66, Tryd.ntmps66
      go_wp2
      go_ret
      exact ⟨by rw [hz.out]; rfl, by rw [hz.out]; rfl⟩
    | true =>
      by_cases hn : n ≤ (s.size : Int)
      · have t : decide ((s.size : Int) < n) = false := by rw [decide_eq_false_iff_not]; omega
        have hz : Hid (rdy s false n true = true) := Lib.hid (by unfold rdy; rw [decide_eq_true hn]; rfl)
        rw [hz.out] at hs
        clear hn
        go_enter Tryd.func66, Tryd.ntmps66
        go_wp2
        go_ret
        exact ⟨by rw [hz.out]; rfl, by rw [hz.out]; rfl⟩
      · have t : decide ((s.size : Int) < n) = true := by rw [decide_eq_true_eq]; omega
        have hz : Hid (rdy s false n true = false) := Lib.hid (by unfold rdy; rw [decide_eq_false hn]; rfl)
        rw [hz.out] at hs
        clear hn
        go_enter Tryd.func66, Tryd.ntmps66
        go_wp2
        go_ret
        exact ⟨by rw [hz.out]; rfl, by rw [hz.out]; rfl⟩
def zeroB (s : ByteArray) : Bool := s.data.toList.all (· == 0)
def eqE (s : ByteArray) : Bool := s.toList == []
theorem trim_zero (l : List UInt8) : ((⟨(Lib.trimB l 0).toArray⟩ : ByteArray).toList == []) = l.all (· == 0) := by
  rw [Lib.toList_data]
  simp only [Lib.trimB, Lib.trimLeftB, Lib.trimRightB, List.toList_toArray]
  rw [Bool.eq_iff_iff, beq_iff_eq, List.all_eq_true]
  have key : ∀ m : List UInt8, m.dropWhile (· == 0) = [] ↔ ∀ x ∈ m, (x == 0) = true := fun m => by
    induction m with
    | nil => simp
    | cons a m ih =>
      rw [List.dropWhile_cons]
      by_cases e : (a == 0) = true
      · rw [if_pos e, ih]
        constructor
        · intro h x hx
          rcases List.mem_cons.1 hx with rfl | hx
          · exact e
          · exact h x hx
        · exact fun h x hx => h x (List.mem_cons_of_mem _ hx)
      · rw [if_neg e]
        constructor
        · intro h; cases h
        · intro h; exact absurd (h a List.mem_cons_self) e
  constructor
  · intro h
    have h1 := (key _).1 h
    have h2 : (l.reverse.dropWhile (· == 0)) = [] := by
      cases hd : l.reverse.dropWhile (· == 0) with
      | nil => rfl
      | cons a m =>
        have ha : (a == 0) = true := h1 a (by rw [hd]; simp)
        have := List.head?_dropWhile_not (p := (· == 0)) l.reverse
        rw [hd] at this
        simp [ha] at this
    have h3 := (key _).1 h2
    exact fun x hx => h3 x (by simpa using hx)
  · intro h
    have h2 : l.reverse.dropWhile (· == 0) = [] := (key _).2 fun x hx => h x (by simpa using hx)
    rw [h2]; rfl
def DrewR (w : World) (v : Value) (e : Ending) (w' : World) : Prop := e = .returned v ∧ ∃ n, w' = w.drewN n
set_option maxHeartbeats 1000000 in
theorem ends_any (b : Nat) (s : ByteArray) (bad : Bool) (w : World) (h : RdAt w b s bad) (hs : s.size ≤ 140737488355328) : Calls Tryd.prog 54 #[.pointer (some ⟨b, 0, none⟩)] w (DrewR w (.bool (!bad && zeroB s))) := by
  have c0 := h.c0
  have c1 := h.c1
  cases bad with
  | true =>
    go_enter Tryd.func54, Tryd.ntmps54
    go_wp2
    go_ret
    exact ⟨rfl, 0, rfl⟩
  | false =>
    have ht := Tryd.strings_Trim_one s 0 (by decide) w (by omega)
    have hz := trim_zero s.data.toList
    rw [show s.data.toList.all (· == 0) = (!false && zeroB s) from rfl] at hz
    generalize (!false && zeroB s) = z at *
    generalize (⟨(Lib.trimB s.data.toList 0).toArray⟩ : ByteArray) = u at *
    go_enter Tryd.func54, Tryd.ntmps54
    go_wp2_with (fail)
    refine ht.mono ?_
    rintro e w' ⟨rfl, hw⟩
    go_wp2_with (fail)
    go_ret
    exact ⟨rfl, by rcases hw with rfl | rfl; exact ⟨0, rfl⟩; exact ⟨1, rfl⟩⟩
end Go.Proofs.YtdbjfofnkijmoaaDoor
