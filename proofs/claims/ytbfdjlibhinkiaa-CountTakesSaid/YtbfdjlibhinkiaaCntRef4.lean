/- count: the document's Of, the inputs that are no table. -/
import Derived.Test.YtbfdjlibhinkiaaCntRef3
namespace Go.Proofs.Ytbfdjlibhinkiaa
open Go.RowKit
set_option linter.unusedVariables false
set_option linter.unusedSimpArgs false

set_option maxRecDepth 100000 in
theorem rof_bad (n : Int) (v : Value) (w : World) (h : n < 8 ∨ 200 < n) : Calls Try.prog 31 #[.int .i64 n, v] w (NoneT w) := by
  have cN := fun W => rnew_bad n W h
  clear h
  go_enter Try.func31, Try.ntmps31
  go_wp2_with (fail)
  refine (cN _).mono ?_
  rintro e w' ⟨rfl, rfl⟩
  go_wp2_with (fail)
  go_ret2
  exact ⟨rfl, Below.refl _ _⟩
set_option maxRecDepth 100000 in
theorem rof_len (n : Nat) (v : Value) (l : List ByteArray) (w : World) (h1 : 8 ≤ n) (h2 : n ≤ 200) (hR : Reads w v (l.map .string)) (hl : l.length ≠ 2) : Calls Try.prog 31 #[.int .i64 (n : Int), v] w (NoneT w) := by
  have cN := fun W => rnew_good n W h1 h2
  have la := fun W => hR.len_run (P := Try.prog) Try.underlying42 3 W
  rw [List.length_map] at la
  have t1 : (((l.length : Nat) : Int) != 2) = true := by rw [bne_iff_ne]; omega
  clear hl
  go_enter Try.func31, Try.ntmps31
  go_wp2_with (fail)
  refine (cN _).mono ?_
  rintro e w1 ⟨p, h, rfl, hh, b1, t⟩
  go_wp2_with (fail)
  go_ret2
  exact ⟨rfl, b1⟩
end Go.Proofs.Ytbfdjlibhinkiaa
