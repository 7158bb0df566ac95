/- trie: a node that may be changed; a path. -/
import Derived.Test.YtlbjfigdocbffaaTriOwn
namespace Go.Proofs.Ytlbjfigdocbffaa
open Go.RowKit
set_option linter.unusedVariables false
set_option linter.unusedSimpArgs false

theorem res_reach {tm : Array Value} {W : World} {b : Nat} {e : Nat → Nat} {t q : Int} (h : W.heap[b]? = some (.cells (ndL e).toArray 91 (0, 0))) (h1 : tm.getD 4 undef = .int .i64 t) (h2 : tm.getD 5 undef = .pointer (some ⟨b, 0, none⟩)) (h3 : tm.getD 6 undef = .int .i64 q) :
    (results Try.f55 tm).run Try.prog W = .ok (.tuple #[.int .i64 t, .agg (ndL e).toArray, .int .i64 q]) W := by
  have h1' : tm[4]?.getD undef = .int .i64 t := by simpa using h1
  have h2' : tm[5]?.getD undef = .pointer (some ⟨b, 0, none⟩) := by simpa using h2
  have h3' : tm[6]?.getD undef = .int .i64 q := by simpa using h3
  have hl := nd_cells h
  have hv : (loadVar 91 ⟨b, 0, none⟩).run Try.prog W = .ok (.agg (ndL e).toArray) W := by simpa [Instr.loadAt, Instr.sureAddr, asAddr] using hl
  simp [results, asAddr, hv, Try.results55, h1', h2', h3', hl]
section
variable {w w' w1 : World} {h g m n : Nat} {u : Value} {C C' : Nat → Nat} {Z Z' : Int → Bool} {X X' : Nat → ByteArray} {v : Value} {x : Ending}
theorem wpList_store_run {P : Program} {w w' : World} {ops : Array Oper} {rest : List Oper} {o : Oper} {a : Act} {Q : Exit → Act → World → Prop} {ty : TypeId} {p v : Value}
    (hr : (Instr.storeAt ty p v).run P w = .ok () w') (hg : o.guard = none) (x y : Operand) (hop : o.op = .store ty x y) (hx : a.eval x = p) (hy : a.eval y = v) (h : wpList P ops Q rest (a.put o.dst undef) w') : wpList P ops Q (o :: rest) a w := by
  refine wpList_plain hg fun K' hK' => ?_
  unfold Oper.wp execOp
  simp only [hop, hx, hy, Sem.run_bind, Sem.run_pure, hr, Result.andThen_ok]
  exact hK' _ _ h
theorem HpG.same (H : Hp w h g m n u C Z X) (k : Same2 w v x w') : HpG w h g m n u C Z X v x w' := ⟨k.1, HTo.quiet k.2, H.below k.2⟩
set_option maxRecDepth 100000 in
set_option maxHeartbeats 1000000 in
theorem reach_some (H : Hp w h g m n u C Z X) (b : Nat) (hb : b ≠ 0) (t : Nat) (e : Nat → Nat) (ho : ∀ W, Hp W h g m n u C Z X → Calls Try.prog 57 #[.pointer (some ⟨h, 0, none⟩), .int .i64 (b : Int)] W (HpG W h g m n u C' Z' X' (.tuple #[.int .i64 (t : Int), .agg (ndL e).toArray, .int .i64 0]))) :
    Calls Try.prog 55 #[.pointer (some ⟨h, 0, none⟩), .int .i64 (b : Int)] w (HpG w h g m n u C' Z' X' (.tuple #[.int .i64 (t : Int), .agg (ndL e).toArray, .int .i64 0])) := by
  obtain ⟨gg, hgg⟩ : ∃ gg, w.heap.size = gg := ⟨_, rfl⟩
  obtain ⟨w1, hw1⟩ : ∃ w1, w1 = w.alloc (.cells nd0 91) := ⟨_, rfl⟩
  have b1 : Below gg w w1 := by rw [hw1]; exact (Below.refl _ _).alloc (by omega) _
  have n1 : w1.heap[gg]? = some (.cells nd0 91 (0, 0)) := by rw [hw1, ← hgg]; exact heap_alloc_new _ _
  have s1 : w1.heap.size = gg + 1 := by rw [hw1]; simp [hgg]
  have H1 : Hp w1 h g m n u C Z X := H.below (by rw [hgg]; exact b1)
  have HB := Lib.hid b1
  have HN := Lib.hid n1
  have HS := Lib.hid s1
  have HG := Lib.hid (show g < gg from by rw [← hgg]; exact H.t.lt)
  have HM := Lib.hid (show m < gg from by rw [← hgg]; obtain ⟨F, H⟩ := H; exact H.p.lt)
  have HLT := Lib.hid H.lts
  have hgg2 := Lib.hid hgg
  have co := ho w1 H1
  have t1 : ((b : Int) != 0) = true := by rw [bne_iff_ne]; omega
  have t2 : ((b : Int) == 0) = false := by rw [beq_eq_false_iff_ne]; omega
  clear b1 n1 s1 H1 H ho hb
  go_enter Try.func55, Try.ntmps55
  go_wp2_with (fail)
  rw [show w.alloc (.cells #[.int .u8 0, .int .u8 0, .int .u8 0, .int .u8 0, .int .u8 0, .int .u8 0, .int .u8 0, .int .u8 0, .int .u8 0, .int .u8 0, .int .u8 0, .int .u8 0, .int .u8 0, .int .u8 0, .int .u8 0, .int .u8 0] 91) = w1 from hw1.symm]
  clear hw1 hgg
  refine co.mono ?_
  rintro x w5 ⟨rfl, T5, H5⟩
  have m5 : w5.heap[gg]? = some (.cells nd0 91 (0, 0)) := (T5.oth gg (by rw [HS.out]; omega) (by have := HG.out; omega) (by have := HM.out; omega)).trans HN.out
  have hst5 := nd_store m5 rfl e
  have HF := Lib.hid (setRow_nd m5 e)
  have hst7 := Lib.hid (nd_storeAt m5 rfl e)
  have K5 : HTo w g m w5 := (HTo.quiet (by rw [hgg2.out]; exact HB.out)).trans T5
  have hfin : Hid (HTo w g m (w5.setRow gg (ndL e).toArray)) := Lib.hid (K5.setRow (by rw [hgg2.out]; exact Nat.le_refl _) _)
  have hfin2 := Lib.hid (H5.frame (w' := w5.setRow gg (ndL e).toArray) (by simp) (fun k hk => by
    have := HLT.out k hk
    rw [hgg2.out] at this
    exact setRow_other w5 gg k _ (by omega)))
  clear m5 T5 H5 K5
  go_wp2_with (fail)
  refine bodyPost_ret (res_reach HF.out rfl rfl rfl) rfl ⟨rfl, hfin.out, hfin2.out⟩
set_option maxRecDepth 100000 in
set_option maxHeartbeats 1000000 in
theorem reach_none (H : Hp w h g m n u C Z X) (t : Nat) (htn : t < n) (ht0 : C t = 0) (htl : ∀ j, j < t → C j ≠ 0) (t3 : 3 ≤ t) :
    Calls Try.prog 55 #[.pointer (some ⟨h, 0, none⟩), .int .i64 0] w (HpG w h g m n u (upd C t 1) (updZ Z t true) (updX X t (ntext fun _ => 0)) (.tuple #[.int .i64 (t : Int), .agg (ndL fun _ => 0).toArray, .int .i64 0])) := by
  obtain ⟨gg, hgg⟩ : ∃ gg, w.heap.size = gg := ⟨_, rfl⟩
  obtain ⟨w1, hw1⟩ : ∃ w1, w1 = w.alloc (.cells nd0 91) := ⟨_, rfl⟩
  have b1 : Below gg w w1 := by rw [hw1]; exact (Below.refl _ _).alloc (by omega) _
  have n1 : w1.heap[gg]? = some (.cells nd0 91 (0, 0)) := by rw [hw1, ← hgg]; exact heap_alloc_new _ _
  have s1 : w1.heap.size = gg + 1 := by rw [hw1]; simp [hgg]
  have H1 : Hp w1 h g m n u C Z X := H.below (by rw [hgg]; exact b1)
  have HB := Lib.hid b1
  have HN := Lib.hid n1
  have HS := Lib.hid s1
  have HG := Lib.hid (show g < gg from by rw [← hgg]; exact H.t.lt)
  have HM := Lib.hid (show m < gg from by rw [← hgg]; obtain ⟨F, H⟩ := H; exact H.p.lt)
  have HLT := Lib.hid H.lts
  have hgg2 := Lib.hid hgg
  have co := add_good H1 t htn ht0 htl t3 (fun _ => 0) (fun _ _ => Nat.zero_le _)
  rw [← nd0_eq] at co
  unfold nd0 at co
  clear b1 n1 s1 H1 H htn ht0 htl t3
  go_enter Try.func55, Try.ntmps55
  go_wp2_with (fail)
  rw [show w.alloc (.cells #[.int .u8 0, .int .u8 0, .int .u8 0, .int .u8 0, .int .u8 0, .int .u8 0, .int .u8 0, .int .u8 0, .int .u8 0, .int .u8 0, .int .u8 0, .int .u8 0, .int .u8 0, .int .u8 0, .int .u8 0, .int .u8 0] 91) = w1 from hw1.symm]
  clear hw1 hgg
  refine co.mono ?_
  rintro x w5 ⟨rfl, T5, H5⟩
  have m5 : w5.heap[gg]? = some (.cells nd0 91 (0, 0)) := (T5.oth gg (by rw [HS.out]; omega) (by have := HG.out; omega) (by have := HM.out; omega)).trans HN.out
  have hst5 := nd_store m5 rfl (fun _ => 0)
  have HF := Lib.hid (setRow_nd m5 (fun _ => 0))
  have hst7 := Lib.hid (nd_storeAt m5 rfl (fun _ => 0))
  have K5 : HTo w g m w5 := (HTo.quiet (by rw [hgg2.out]; exact HB.out)).trans T5
  have hfin : Hid (HTo w g m (w5.setRow gg (ndL (fun _ => 0)).toArray)) := Lib.hid (K5.setRow (by rw [hgg2.out]; exact Nat.le_refl _) _)
  have hfin2 := Lib.hid (H5.frame (w' := w5.setRow gg (ndL (fun _ => 0)).toArray) (by simp) (fun k hk => by
    have := HLT.out k hk
    rw [hgg2.out] at this
    exact setRow_other w5 gg k _ (by omega)))
  clear m5 T5 H5 K5
  have hst6 : (Instr.storeAt 91 (.pointer (some ⟨gg, 0, none⟩)) (.agg #[.int .u8 0, .int .u8 0, .int .u8 0, .int .u8 0, .int .u8 0, .int .u8 0, .int .u8 0, .int .u8 0, .int .u8 0, .int .u8 0, .int .u8 0, .int .u8 0, .int .u8 0, .int .u8 0, .int .u8 0, .int .u8 0])).run Try.prog w5 = .ok () (w5.setRow gg (ndL fun _ => 0).toArray) := hst7.out
  clear hst5
  go_wp2_with (with_reducible refine wpList_store_run hst6 rfl _ _ rfl rfl rfl ?_)
  refine bodyPost_ret (res_reach HF.out rfl rfl rfl) rfl ⟨rfl, hfin.out, hfin2.out⟩
/-- The digits of a key. -/
theorem path_any (k : Nat) (hk : k < 4096) (w : World) : Calls Try.prog 41 #[.int .i64 (k : Int)] w fun x w' => x = .returned (.slice (some ⟨w.heap.size, 0, none⟩) 3 3) ∧ w' = w.alloc (.cells #[.int .i64 ((k / 256 : Nat) : Int), .int .i64 ((k / 16 % 16 : Nat) : Int), .int .i64 ((k % 16 : Nat) : Int)] 3) := by
  have d1 : (k : Int) / 256 = ((k / 256 : Nat) : Int) := by omega
  have d2 : (k : Int) / 16 = ((k / 16 : Nat) : Int) := by omega
  have d3 : ((k / 16 : Nat) : Int) % 16 = ((k / 16 % 16 : Nat) : Int) := by omega
  have d4 : (k : Int) % 16 = ((k % 16 : Nat) : Int) := by omega
  have d5 : Int.tdiv (k : Int) 256 = ((k / 256 : Nat) : Int) := by rw [Int.tdiv_eq_ediv_of_nonneg (by omega)]; exact d1
  have d6 : Int.tdiv (k : Int) 16 = ((k / 16 : Nat) : Int) := by rw [Int.tdiv_eq_ediv_of_nonneg (by omega)]; exact d2
  have d7 : Int.tmod ((k / 16 : Nat) : Int) 16 = ((k / 16 % 16 : Nat) : Int) := by rw [Int.tmod_eq_emod_of_nonneg (by omega)]; exact d3
  have d8 : Int.tmod (k : Int) 16 = ((k % 16 : Nat) : Int) := by rw [Int.tmod_eq_emod_of_nonneg (by omega)]; exact d4
  have i1 : k / 256 < 16 := by omega
  have i2 : k / 16 < 256 := by omega
  have i3 : k / 16 % 16 < 16 := by omega
  have i4 : k % 16 < 16 := by omega
  generalize k / 16 % 16 = y at *
  generalize k / 256 = x at *
  generalize k % 16 = z at *
  generalize k / 16 = q at *
  go_enter Try.func41, Try.ntmps41
  go_wp2
  go_ret
  exact ⟨rfl, rfl⟩
theorem isKey_any (k : Nat) (hk : k < 4096) (w : World) : Calls Try.prog 40 #[.int .i64 (k : Int)] w fun x w' => x = .returned (.bool true) ∧ w = w' := by
  have t1 : (0 : Int) ≤ (k : Int) := by omega
  have t2 : (k : Int) < 4096 := by omega
  have t3 : decide ((0 : Int) ≤ (k : Int)) = true := decide_eq_true t1
  have t4 : decide ((k : Int) < 4096) = true := decide_eq_true t2
  go_enter Try.func40, Try.ntmps40
  go_wp2
  go_ret
  exact ⟨rfl, rfl⟩
end
end Go.Proofs.Ytlbjfigdocbffaa
