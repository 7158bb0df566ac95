/- mat: raw squares. -/
import Derived.Test.YtcmnojflllcdfaaDoorMatSame
namespace Go.Proofs.YtcmnojflllcdfaaDoor
open Go.RowKit
set_option linter.unusedVariables false
set_option linter.unusedSimpArgs false

def sqEl (s : ByteArray) (n i j : Nat) : UInt8 := s.data[i * n + j]?.getD 0
def squareL (s : ByteArray) (n : Nat) : List ByteArray := mkM (sqEl s n) n n
theorem squareL_rect (s : ByteArray) (n : Nat) : Rect (squareL s n) n n := mkM_rect _ n n
/-- The first k rows, and no more. -/
def firstL (f : Nat → ByteArray) (k : Nat) : List ByteArray := (List.range k).map f
theorem firstL_succ (f : Nat → ByteArray) (k : Nat) : tx (firstL f (k + 1)) = tx (firstL f k) ++ [.string (f k)] := by simp [firstL, tx, List.range_succ]
theorem firstL_length (f : Nat → ByteArray) (k : Nat) : (firstL f k).length = k := by simp [firstL]
theorem mul_le_256 {k n : Nat} (hk : k ≤ 16) (hn : n ≤ 16) : k * n ≤ 256 := Nat.le_trans (Nat.mul_le_mul hk hn) (by decide)
end Go.Proofs.YtcmnojflllcdfaaDoor
