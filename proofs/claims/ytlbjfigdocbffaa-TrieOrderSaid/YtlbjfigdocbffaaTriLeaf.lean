/- trie: set where a path ends. -/
import Derived.Test.YtlbjfigdocbffaaTriSet
namespace Go.Proofs.Ytlbjfigdocbffaa
open Go.RowKit
set_option linter.unusedVariables false
set_option linter.unusedSimpArgs false

section
variable {w w' w1 : World} {h g m n : Nat} {u : Value} {C C1 : Nat → Nat} {Z Z1 : Int → Bool} {X X1 : Nat → ByteArray} {v : Value} {x : Ending}
set_option maxRecDepth 100000 in
set_option maxHeartbeats 1000000 in
theorem set_leaf (b p o block : Nat) (hrel : Calls Try.prog 49 #[.pointer (some ⟨h, 0, none⟩), .int .i64 (b : Int)] w (HpG w h g m n u C1 Z1 X1 (.int .i64 0))) :
    Calls Try.prog 44 #[.pointer (some ⟨h, 0, none⟩), .int .i64 (b : Int), restV p o 0, .int .i64 (block : Int)] w (HpG w h g m n u C1 Z1 X1 (.tuple #[.int .i64 (block : Int), .int .i64 0])) := by
  unfold restV
  go_enter Try.func44, Try.ntmps44
  go_wp2_with (fail)
  refine hrel.mono ?_
  rintro x w2 ⟨rfl, T2, H2⟩
  have hfin := Lib.hid T2
  have hfin2 := Lib.hid H2
  clear T2 H2
  go_wp2_with (fail)
  go_ret2
  exact ⟨rfl, hfin.out, hfin2.out⟩
/-- A path in memory. -/
def pathC (k : Nat) : Obj := .cells #[.int .i64 ((k / 256 : Nat) : Int), .int .i64 ((k / 16 % 16 : Nat) : Int), .int .i64 ((k % 16 : Nat) : Int)] 3
set_option maxRecDepth 100000 in
set_option maxHeartbeats 1000000 in
theorem hset_of (H : Hp w h g m n u C Z X) (root key block r : Nat) (hk : key < 4096) (h3 : 3 ≤ block) (hb : block < n) (hc : 0 < C block)
    (hs : Hp (w.alloc (pathC key)) h g m n u C Z X → Calls Try.prog 44 #[.pointer (some ⟨h, 0, none⟩), .int .i64 (root : Int), restV w.heap.size 0 3, .int .i64 (block : Int)] (w.alloc (pathC key)) (HpG (w.alloc (pathC key)) h g m n u C1 Z1 X1 (.tuple #[.int .i64 (r : Int), .int .i64 0]))) :
    Calls Try.prog 24 #[.pointer (some ⟨h, 0, none⟩), .int .i64 (root : Int), .int .i64 (key : Int), .int .i64 (block : Int)] w (HpG w h g m n u C1 Z1 X1 (.tuple #[.int .i64 (r : Int), .int .i64 0])) := by
  have ck := isKey_any key hk w
  have cl : Calls Try.prog 39 #[.pointer (some ⟨h, 0, none⟩), .int .i64 (block : Int)] w fun e w' => e = .returned (.bool true) ∧ w = w' := by
    obtain ⟨F, H⟩ := H
    have := lent_any H block
    rw [cntd_true h3 hb hc] at this
    exact this
  have cp := path_any key hk w
  have hb1 : Below w.heap.size w (w.alloc (pathC key)) := (Below.refl _ _).alloc (Nat.le_refl _) _
  have cs := hs (H.below hb1)
  have HB := Lib.hid hb1
  unfold restV at cs
  clear hs H hb1 hk h3 hb hc
  go_enter Try.func24, Try.ntmps24
  go_wp2_with (fail)
  refine ck.mono ?_
  rintro x w' ⟨rfl, rfl⟩
  go_wp2_with (fail)
  refine cl.mono ?_
  rintro x w' ⟨rfl, rfl⟩
  go_wp2_with (fail)
  refine cp.mono ?_
  rintro x w2 ⟨rfl, e2⟩
  rw [show w.alloc (.cells #[.int .i64 ((key / 256 : Nat) : Int), .int .i64 ((key / 16 % 16 : Nat) : Int), .int .i64 ((key % 16 : Nat) : Int)] 3) = w.alloc (pathC key) from rfl] at e2
  rw [← e2] at cs HB
  clear e2
  go_wp2_with (fail)
  refine cs.mono ?_
  rintro x w3 ⟨rfl, T3, H3⟩
  have hfin := Lib.hid (show HTo w g m w3 from (HTo.quiet HB.out).trans T3)
  have hfin2 := Lib.hid H3
  clear T3 H3
  go_wp2_with (fail)
  go_ret2
  exact ⟨rfl, hfin.out, hfin2.out⟩
theorem hfind_of (root key : Int) (b : Nat) (q : Bool) (hs : Calls Try.prog 17 #[.pointer (some ⟨h, 0, none⟩), .int .i64 root, .int .i64 key] w (Same2 w (.tuple #[.int .i64 (b : Int), .bool q, .int .i64 0]))) :
    Calls Try.prog 18 #[.pointer (some ⟨h, 0, none⟩), .int .i64 root, .int .i64 key] w (Same2 w (.tuple #[.int .i64 (b : Int), .int .i64 0])) := by
  go_enter Try.func18, Try.ntmps18
  go_wp2_with (fail)
  refine hs.mono ?_
  rintro x w2 ⟨rfl, b2⟩
  have hfin := Lib.hid b2
  clear b2
  go_wp2_with (fail)
  go_ret2
  exact ⟨rfl, hfin.out⟩
end
end Go.Proofs.Ytlbjfigdocbffaa
