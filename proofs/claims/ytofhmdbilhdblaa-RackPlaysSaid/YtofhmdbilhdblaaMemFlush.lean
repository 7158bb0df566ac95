/- member: Flush. -/
import Derived.Test.YtofhmdbilhdblaaMemAw
namespace Go.Proofs.Ytofhmdbilhdblaa
open Go.RowKit
set_option linter.unusedVariables false
set_option linter.unusedSimpArgs false

theorem flush_dead {w : World} {S : Nat → Prop} {m g bp cap : Nat} {L : List ByteArray} {V : Int → List ByteArray} {F : Int → Value} (h : PBox w S m g bp cap true L V F) :
    Calls Try.prog 13 #[.pointer (some ⟨m, 0, none⟩)] w fun e w' => e = .returned (.int .i64 80) ∧ w = w' := by
  have c0 := h.c0
  clear h
  go_enter Try.func13, Try.ntmps13
  go_wp2
  go_ret
  exact ⟨rfl, rfl⟩
/-- What lasts behind a flush of the keys that are told. -/
def flL (L : List ByteArray) (V : Int → List ByteArray) (d : Int → Bool) : List ByteArray := (List.range L.length).map fun i : Nat => if d (i : Int) then lastOf (V (i : Int)) (L.getD i zero128) else L.getD i zero128
theorem flL_len (L : List ByteArray) (V : Int → List ByteArray) (d : Int → Bool) : (flL L V d).length = L.length := by simp [flL]
theorem flL_none (L : List ByteArray) (V : Int → List ByteArray) (d : Int → Bool) (h : ∀ i : Nat, i < L.length → d (i : Int) = false) : flL L V d = L := by
  unfold flL
  apply List.ext_getElem?
  intro j
  by_cases hj : j < L.length
  · rw [List.getElem?_map, List.getElem?_range hj, Option.map_some, h j hj, List.getD_eq_getElem?_getD, List.getElem?_eq_getElem hj]; rfl
  · rw [List.getElem?_eq_none (by simp; omega), List.getElem?_eq_none (by omega)]
theorem flL_set (L : List ByteArray) (V : Int → List ByteArray) (d e : Int → Bool) (n : Nat) (hn : n < L.length) (s : ByteArray) (hs : lastOf (V (n : Int)) (L.getD n zero128) = s) (he : e (n : Int) = true) (ho : ∀ i : Nat, i ≠ n → i < L.length → e (i : Int) = d (i : Int)) :
    (flL L V d).set n s = flL L V e := by
  unfold flL
  apply List.ext_getElem?
  intro j
  rw [List.getElem?_set]
  by_cases hj : j < L.length
  · by_cases h : n = j
    · subst h
      rw [if_pos rfl, if_pos (by simp; omega), List.getElem?_map, List.getElem?_range hj, Option.map_some, he]
      simp only [if_true]; rw [hs]
    · rw [if_neg h, List.getElem?_map, List.getElem?_range hj, List.getElem?_map, List.getElem?_range hj, Option.map_some, Option.map_some, ho j (Ne.symm h) hj]
  · rw [if_neg (by omega), List.getElem?_eq_none (by simp; omega), List.getElem?_eq_none (by simp; omega)]
/-- What lasts behind a flush. -/
def flush (L : List ByteArray) (V : Int → List ByteArray) : List ByteArray := flL L V fun _ => true
end Go.Proofs.Ytofhmdbilhdblaa

