/- trie: an entry of a node is turned. -/
import Derived.Test.YtlbjfigdocbffaaTriOps
namespace Go.Proofs.Ytlbjfigdocbffaa
open Go.RowKit
set_option linter.unusedVariables false
set_option linter.unusedSimpArgs false

theorem ndL_set (e : Nat → Nat) (i v : Nat) : (ndL e).set i (.int .u8 (v : Int)) = ndL (Tri.updE e i v) := by
  apply List.ext_getElem?
  intro k
  rw [List.getElem?_set]
  by_cases hk : k < 16
  · rw [ndL_get _ k hk, ndL_get _ k hk]
    by_cases e1 : i = k
    · subst e1
      rw [if_pos rfl, if_pos (by rw [ndL_len]; exact hk), Tri.updE_same]
    · rw [if_neg e1, Tri.updE_other (by omega)]
  · rw [List.getElem?_eq_none (by rw [ndL_len]; omega), List.getElem?_eq_none (by rw [ndL_len]; omega)]
    split
    · rw [if_neg (by rw [ndL_len]; omega)]
    · rfl
section
variable {w w' w1 : World} {h g m n : Nat} {u : Value} {C C' : Nat → Nat} {Z Z' : Int → Bool} {X X' : Nat → ByteArray} {v : Value} {x : Ending}
def Same2 (w : World) (v : Value) (x : Ending) (w' : World) : Prop := x = .returned v ∧ Below w.heap.size w w'
set_option maxRecDepth 100000 in
set_option maxHeartbeats 1000000 in
theorem enter_same (w : World) (h i b : Nat) (e : Nat → Nat) (kid : Nat) (hi : i < 16) (hk : e i = kid) (hk2 : kid ≤ 255) :
    Calls Try.prog 56 #[.pointer (some ⟨h, 0, none⟩), .int .i64 (b : Int), .agg (ndL e).toArray, .int .i64 (i : Int), .int .i64 (kid : Int)] w (Same2 w (.tuple #[.int .i64 (b : Int), .int .i64 0])) := by
  obtain ⟨w1, hw1⟩ : ∃ w1, w1 = w.alloc (.cells (ndL e).toArray 91) := ⟨_, rfl⟩
  have b1 : Below w.heap.size w w1 := by rw [hw1]; exact (Below.refl _ _).alloc (Nat.le_refl _) _
  have n1 : w1.heap[w.heap.size]? = some (.cells (ndL e).toArray 91 (0, 0)) := by rw [hw1]; exact heap_alloc_new _ _
  have c1 : w1.cell? ⟨w.heap.size, i, none⟩ = some (.int .u8 (kid : Int)) := by
    simp only [World.cell?, n1]
    rw [← hk]; simpa using ndL_get e i hi
  have t1 : (i : Int) < 16 := by omega
  have HB := Lib.hid b1
  clear b1 n1 hk
  generalize ndL e = es at *
  go_enter Try.func56, Try.ntmps56
  go_upto_region 1 with (fail)
  rw [← hw1]
  clear hw1
  go_wp2_with (fail)
  go_ret2
  exact ⟨rfl, HB.out⟩
set_option maxRecDepth 100000 in
set_option maxHeartbeats 1000000 in
theorem enter_new (H : Hp w h g m n u C Z X) (b : Nat) (h3 : 3 ≤ b) (hb : b < n) (hc : 0 < C b) (e : Nat → Nat) (he : ∀ j, j < 16 → e j ≤ 255) (i kid : Nat) (hi : i < 16) (hk : e i ≠ kid) (hk2 : kid ≤ 255) :
    Calls Try.prog 56 #[.pointer (some ⟨h, 0, none⟩), .int .i64 (b : Int), .agg (ndL e).toArray, .int .i64 (i : Int), .int .i64 (kid : Int)] w
      (HpG w h g m n u C (updZ Z b true) (updX X b (ntext (Tri.updE e i kid))) (.tuple #[.int .i64 (b : Int), .int .i64 0])) := by
  obtain ⟨w1, hw1⟩ : ∃ w1, w1 = w.alloc (.cells (ndL e).toArray 91) := ⟨_, rfl⟩
  have b1 : Below w.heap.size w w1 := by rw [hw1]; exact (Below.refl _ _).alloc (Nat.le_refl _) _
  have n1 : w1.heap[w.heap.size]? = some (.cells (ndL e).toArray 91 (0, 0)) := by rw [hw1]; exact heap_alloc_new _ _
  have c1 : w1.cell? ⟨w.heap.size, i, none⟩ = some (.int .u8 ((e i : Nat) : Int)) := by
    simp only [World.cell?, n1]; simpa using ndL_get e i hi
  have f1 : w1.frozen? ⟨w.heap.size, i, none⟩ = false := by simp [World.frozen?, n1]
  obtain ⟨w2, hw2⟩ : ∃ w2, w2 = w1.setCell ⟨w.heap.size, i, none⟩ (.int .u8 (kid : Int)) := ⟨_, rfl⟩
  have b2 : Below w.heap.size w w2 := by rw [hw2]; exact b1.setCell (p := ⟨w.heap.size, i, none⟩) (Nat.le_refl _) _
  have n2 : w2.heap[w.heap.size]? = some (.cells (ndL (Tri.updE e i kid)).toArray 91 (0, 0)) := by
    rw [hw2, ← ndL_set]; simp [World.setCell, Array.getElem?_modify, n1]
  have hld := nd_cells n2
  have t1 : (i : Int) < 16 := by omega
  have t2 : (((e i : Nat) : Int) == (kid : Int)) = false := by rw [beq_eq_false_iff_ne]; omega
  have t3 : ¬ ((e i : Nat) : Int) = (kid : Int) := by omega
  have t4 : IntKind.u8.wrap (kid : Int) = (kid : Int) := by simp [IntKind.wrap, IntKind.signed, IntKind.bits]; omega
  have hei := he i hi
  have HB := Lib.hid b2
  have H2 := Lib.hid (H.below b2)
  have HP : Hid (∀ W, Hp W h g m n u C Z X → Calls Try.prog 63 #[.pointer (some ⟨h, 0, none⟩), .int .i64 (b : Int), .agg (ndL (Tri.updE e i kid)).toArray] W (HpG W h g m n u C (updZ Z b true) (updX X b (ntext (Tri.updE e i kid))) (.tuple #[.int .i64 (b : Int), .int .i64 0]))) :=
    Lib.hid fun W HW => hputn HW b h3 hb hc _ (fun j hj => by
      by_cases ej : j = i
      · subst ej; rw [Tri.updE_same]; exact hk2
      · rw [Tri.updE_other ej]; exact he j hj)
  clear b1 n1 b2 n2 H h3 hb hc hk he
  generalize ndL (Tri.updE e i kid) = es2 at *
  generalize ntext (Tri.updE e i kid) = t at *
  generalize ndL e = es at *
  generalize e i = q at *
  go_enter Try.func56, Try.ntmps56
  go_upto_region 1 with (fail)
  rw [← hw1]
  clear hw1
  go_upto_region 4 with (fail)
  rw [← hw2]
  clear hw2
  go_wp2_with (with_reducible refine wpList_load_run hld rfl _ rfl rfl ?_)
  refine (HP.out w2 H2.out).mono ?_
  rintro x w3 ⟨rfl, k3, h3⟩
  have hfin := Lib.hid (show HTo w g m w3 from (HTo.quiet HB.out).trans k3)
  have HH3 := Lib.hid h3
  clear h3 k3
  go_wp2_with (fail)
  go_ret2
  exact ⟨rfl, hfin.out, HH3.out⟩
end
end Go.Proofs.Ytlbjfigdocbffaa
