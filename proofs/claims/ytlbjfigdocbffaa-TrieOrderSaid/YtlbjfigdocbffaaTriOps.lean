/- trie: put, add, release, enter. -/
import Derived.Test.YtlbjfigdocbffaaTriNode2
namespace Go.Proofs.Ytlbjfigdocbffaa
open Go.RowKit
set_option linter.unusedVariables false
set_option linter.unusedSimpArgs false

section
variable {w w' w1 : World} {h g m n : Nat} {u : Value} {C C' : Nat → Nat} {Z Z' : Int → Bool} {X X' : Nat → ByteArray} {v : Value} {x : Ending}
theorem Hp.below (H : Hp w h g m n u C Z X) (hb : Below w.heap.size w w') : Hp w' h g m n u C Z X := by obtain ⟨F, H⟩ := H; exact ⟨F, H.below hb⟩
theorem HpG.from (H : HpG w1 h g m n u C Z X v x w') (hb : Below w.heap.size w w1) : HpG w h g m n u C Z X v x w' := ⟨H.1, (HTo.quiet hb).trans H.2.1, H.2.2⟩
theorem HpG.after (H1 : HTo w g m w1) (H : HpG w1 h g m n u C Z X v x w') : HpG w h g m n u C Z X v x w' := ⟨H.1, H1.trans H.2.1, H.2.2⟩
set_option maxRecDepth 100000 in
set_option maxHeartbeats 1000000 in
/-- A block is a node then. -/
theorem hputn (H : Hp w h g m n u C Z X) (i : Nat) (h3 : 3 ≤ i) (hi : i < n) (hc : 0 < C i) (e : Nat → Nat) (he : ∀ j, j < 16 → e j ≤ 255) :
    Calls Try.prog 63 #[.pointer (some ⟨h, 0, none⟩), .int .i64 (i : Int), .agg (ndL e).toArray] w (HpG w h g m n u C (updZ Z i true) (updX X i (ntext e)) (.tuple #[.int .i64 (i : Int), .int .i64 0])) := by
  obtain ⟨w1, hw1⟩ : ∃ w1, w1 = w.alloc (.cells (ndL e).toArray 91) := ⟨_, rfl⟩
  have b1 : Below w.heap.size w w1 := by rw [hw1]; exact (Below.refl _ _).alloc (Nat.le_refl _) _
  have n1 : w1.heap[w.heap.size]? = some (.cells (ndL e).toArray 91 (0, 0)) := by rw [hw1]; exact heap_alloc_new _ _
  have hld := nd_cells n1
  have H1 := Lib.hid (H.below b1)
  have HB := Lib.hid b1
  have ct := text_any e he w1
  have HP : Hid (∀ W, Hp W h g m n u C Z X → Calls Try.prog 22 #[.pointer (some ⟨h, 0, none⟩), .int .i64 (i : Int), .string (ntext e)] W (HpG W h g m n u C (updZ Z i true) (updX X i (ntext e)) (.int .i64 0))) :=
    Lib.hid fun W ⟨F, HW⟩ => put_good HW i h3 hi hc (ntext e) (ntext_size e)
  clear b1 n1 H h3 hi hc he
  generalize ndL e = es at *
  generalize ntext e = t at *
  go_enter Try.func63, Try.ntmps63
  go_upto_region 1 with (fail)
  rw [← hw1]
  clear hw1
  go_wp2_with (with_reducible refine wpList_load_run hld rfl _ rfl rfl ?_)
  refine ct.mono ?_
  rintro x w2 ⟨rfl, b2⟩
  go_wp2_with (fail)
  refine (HP.out w2 (H1.out.below b2)).mono ?_
  rintro x w3 ⟨rfl, t3, h3⟩
  have hfin := Lib.hid (show HTo w g m w3 from ((HTo.quiet HB.out).trans (HTo.quiet b2)).trans t3)
  have HH3 := Lib.hid h3
  clear h3 t3 b2
  go_wp2_with (fail)
  go_ret2
  exact ⟨rfl, hfin.out, HH3.out⟩
/-- What is said of a count. -/
theorem Hp.tab (H : Hp w h g m n u C Z X) (T : TabTo w g n C' w') (hS : Small n C') : Hp w' h g m n u C' Z X := by obtain ⟨F, H⟩ := H; exact ⟨F, H.tab T hS⟩
theorem Hp.small (H : Hp w h g m n u C Z X) : Small n C := by obtain ⟨F, H⟩ := H; exact H.sm
theorem Hp.t (H : Hp w h g m n u C Z X) : TabAt w g n C := by obtain ⟨F, H⟩ := H; exact H.t
theorem Hp.c1 (H : Hp w h g m n u C Z X) : w.cell? ⟨h, 1, none⟩ = some (.pointer (some ⟨g, 0, none⟩)) := by obtain ⟨F, H⟩ := H; exact H.c1
set_option maxRecDepth 100000 in
set_option maxHeartbeats 1000000 in
/-- The reference to a block is taken back. -/
theorem release_one (H : Hp w h g m n u C Z X) (i : Nat) (h3 : 3 ≤ i) (hi : i < n) (hc : 0 < C i) :
    Calls Try.prog 49 #[.pointer (some ⟨h, 0, none⟩), .int .i64 (i : Int)] w (HpG w h g m n u (upd C i (C i - 1)) Z X (.int .i64 0)) := by
  have c1 := H.c1
  have hS := H.small
  have cd := dec_good g n C i w H.t hS h3 hi hc
  have HH := Lib.hid H
  have HS := Lib.hid (small_upd hS hi (v := C i - 1) (by have := hS.c i; omega))
  have t1 : ((i : Int) == 0) = false := by rw [beq_eq_false_iff_ne]; omega
  clear H hS hc hi h3
  generalize upd C i (C i - 1) = C' at *
  generalize C i - 1 = q at *
  go_enter Try.func49, Try.ntmps49
  go_wp2_with (fail)
  refine cd.mono ?_
  rintro x w2 ⟨rfl, t2⟩
  have hfin := Lib.hid t2
  clear t2
  go_wp2_with (fail)
  go_ret
  exact ⟨rfl, HTo.tab hfin.out, HH.out.tab hfin.out HS.out⟩
theorem release_none (w : World) (h : Nat) : Calls Try.prog 49 #[.pointer (some ⟨h, 0, none⟩), .int .i64 0] w fun x w' => x = .returned (.int .i64 0) ∧ w = w' := by
  go_enter Try.func49, Try.ntmps49
  go_wp2
  go_ret
  exact ⟨rfl, rfl⟩
set_option maxRecDepth 100000 in
set_option maxHeartbeats 1000000 in
/-- A new block that is a node. -/
theorem add_good (H : Hp w h g m n u C Z X) (k : Nat) (hk : k < n) (h0 : C k = 0) (hl : ∀ j, j < k → C j ≠ 0) (h3 : 3 ≤ k) (e : Nat → Nat) (he : ∀ j, j < 16 → e j ≤ 255) :
    Calls Try.prog 62 #[.pointer (some ⟨h, 0, none⟩), .agg (ndL e).toArray] w (HpG w h g m n u (upd C k 1) (updZ Z k true) (updX X k (ntext e)) (.tuple #[.int .i64 (k : Int), .int .i64 0])) := by
  obtain ⟨w1, hw1⟩ : ∃ w1, w1 = w.alloc (.cells (ndL e).toArray 91) := ⟨_, rfl⟩
  have b1 : Below w.heap.size w w1 := by rw [hw1]; exact (Below.refl _ _).alloc (Nat.le_refl _) _
  have n1 : w1.heap[w.heap.size]? = some (.cells (ndL e).toArray 91 (0, 0)) := by rw [hw1]; exact heap_alloc_new _ _
  have H1 := H.below b1
  have c1 := H1.c1
  have hS := H1.small
  have ca := alloc_some g n C w1 H1.t hS k hk h0 hl
  have hgw : g < w.heap.size := H.t.lt
  have HG := Lib.hid hgw
  have HN := Lib.hid n1
  have HB := Lib.hid b1
  have HH := Lib.hid H1
  have HS := Lib.hid (small_upd hS hk (v := 1) (by omega))
  have HP : Hid (∀ W, Hp W h g m n u (upd C k 1) Z X → Calls Try.prog 63 #[.pointer (some ⟨h, 0, none⟩), .int .i64 (k : Int), .agg (ndL e).toArray] W (HpG W h g m n u (upd C k 1) (updZ Z k true) (updX X k (ntext e)) (.tuple #[.int .i64 (k : Int), .int .i64 0]))) :=
    Lib.hid fun W HW => hputn HW k h3 hk (by simp [upd]) e he
  clear b1 n1 H H1 h3 hk h0 hl he hS hgw
  go_enter Try.func62, Try.ntmps62
  go_upto_region 1 with (fail)
  rw [← hw1]
  clear hw1
  go_wp2_with (fail)
  refine ca.mono ?_
  rintro x w2 ⟨rfl, t2⟩
  have hld : (Instr.loadAt 91 (.pointer (some ⟨w.heap.size, 0, none⟩))).run Try.prog w2 = .ok (.agg (ndL e).toArray) w2 := nd_cells ((t2.oth _ (Array.getElem?_eq_some_iff.1 HN.out).1 (by have := HG.out; omega)).trans HN.out)
  have h2 := Lib.hid (HH.out.tab t2 HS.out)
  have T2 := Lib.hid (HTo.tab (m := m) t2)
  clear t2
  generalize ndL e = es at *
  generalize ntext e = t at *
  go_wp2_with (with_reducible refine wpList_load_run hld rfl _ rfl rfl ?_)
  refine (HP.out w2 h2.out).mono ?_
  rintro x w3 ⟨rfl, t3, h3⟩
  have hfin := Lib.hid (show HTo w g m w3 from ((HTo.quiet HB.out).trans T2.out).trans t3)
  have HH3 := Lib.hid h3
  clear h3 t3
  go_wp2_with (fail)
  go_ret2
  exact ⟨rfl, hfin.out, HH3.out⟩
end
end Go.Proofs.Ytlbjfigdocbffaa
