/- mat: rows of noughts; lists of texts as they lie in the world. -/
import Derived.Test.YtcmnojflllcdfaaDoorGfLine
import Derived.Test.YtcmnojflllcdfaaDoorGfRLine
import Derived.Test.YtcmnojflllcdfaaDoorShelf
import Derived.Lib.Hide
namespace Go.Proofs.YtcmnojflllcdfaaDoor
open Go.RowKit
set_option linter.unusedVariables false
set_option linter.unusedSimpArgs false

/-- n noughts. -/
def zrow (n : Nat) : ByteArray := ⟨(List.replicate n (0 : UInt8)).toArray⟩
theorem zrow_size (n : Nat) : (zrow n).size = n := by show (zrow n).data.size = n; simp [zrow]
theorem repeat_zero (n : Nat) : (⟨(Lib.repeatL [0] n).toArray⟩ : ByteArray) = zrow n := by
  have := Lib.repeatL_replicate 0 1 n
  simp only [List.replicate_one, Nat.mul_one] at this
  rw [this]; rfl
theorem zeros_any (n : Nat) (w : World) (h : n ≤ 140737488355328) :
    Calls Tryd.prog 55 #[.int .i64 (n : Int)] w fun e w' => e = .returned (.string (zrow n)) ∧ Below w.heap.size w w' := by
  have hr := fun W => Tryd.strings_Repeat ⟨#[0]⟩ n W (by omega) (by show 1 * n ≤ _; omega)
  rw [show (⟨(Lib.repeatL (⟨#[0]⟩ : ByteArray).data.toList n).toArray⟩ : ByteArray) = zrow n from repeat_zero n] at hr
  go_enter Tryd.func55, Tryd.ntmps55
  go_wp2_with (go_at_call 58; refine (hr _).mono ?_; rintro e w1 ⟨rfl, hb⟩)
  go_ret
  exact ⟨rfl, hb⟩
/-- A list of texts that stands in the cells of a block. -/
structure SRow (w : World) (b off : Nat) (l : List ByteArray) : Prop where
  cell : ∀ i, i < l.length → w.cell? ⟨b, off + i, none⟩ = some (.string (l.getD i ⟨#[]⟩))
  lt : b < w.heap.size
theorem SRow.below {w w' : World} {b off : Nat} {l : List ByteArray} (h : SRow w b off l) (hb : Below w.heap.size w w') : SRow w' b off l :=
  ⟨fun i hi => by rw [hb.cell (p := ⟨b, off + i, none⟩) h.lt]; exact h.cell i hi, Nat.lt_of_lt_of_le h.lt hb.size⟩
end Go.Proofs.YtcmnojflllcdfaaDoor
