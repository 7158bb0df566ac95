/- dir: slices.Delete, slices.Insert. -/
import Derived.Test.YtfmgoamgcjipkaaDirWalk3
import Derived.Deep.RegionLaw
namespace Go.Proofs.Ytfmgoamgcjipkaa
open Go.RowKit
set_option linter.unusedVariables false
set_option linter.unusedSimpArgs false
open Dr

theorem step_append_run {P : Program} {ops : Array Oper} {o : Oper} {a : Act} {w : World} {K : Act → World → Prop} {Q : Exit → Act → World → Prop} {E : Prop} {t ty : TypeId} {v xv v' : Value} {w' : World}
    (hr : (Builtin.append_ #[t, t] ty #[v, xv]).run P w = .ok v' w') (s x : Operand) (hg : o.guard = none) (hop : o.op = Op.call { callee := Callee.builtin Builtin.append, args := #[s, x], argTypes := #[t, t] })
    (hty : o.type = ty) (hs : a.eval s = v) (hx : a.eval x = xv) (hK : K (a.put o.dst v') w') : if Region.wanted o (yielded ops a.tmps) = true then Oper.wp P o a w K Q else E := by
  have hw : Region.wanted o (yielded ops a.tmps) = true := by simp [Region.wanted, hg]
  rw [if_pos hw]
  subst hty
  unfold Oper.wp
  simp [execOp, hop, resolve, invoke, builtin, hs, hx, hr, Result.andThen]
  exact hK
theorem zero_len (n : Nat) : (Builtin.zeroCells noVol.v.cells n).toList.length = n * 3 := by simp [Builtin.zeroCells, Vol.v, noVol, Value.cells]
theorem zero_one (n : Nat) : ∀ u ∈ (Builtin.zeroCells noVol.v.cells n).toList, u.oneCell' = true := by
  intro u hu
  simp only [Builtin.zeroCells, Array.toList_map, List.mem_map] at hu
  obtain ⟨i, _, rfl⟩ := hu
  have h3 : (noVol.v.cells).size = 3 := rfl
  rw [h3]
  have hi : i % 3 < 3 := Nat.mod_lt _ (by decide)
  generalize i % 3 = j at hi
  rcases (by omega : j = 0 ∨ j = 1 ∨ j = 2) with rfl | rfl | rfl <;> rfl
def GivesB (w : World) (B : Nat) (l : List Vol) (e : Ending) (w' : World) : Prop := ∃ v, e = .returned v ∧ OwnE volE w' B 24 v l ∧ Below B w w'
set_option maxRecDepth 100000 in
set_option maxHeartbeats 4000000 in
theorem delete_any (v : Value) (l : List Vol) (i j B : Nat) (w : World) (h : OwnE volE w B 24 v l) (hi : i < l.length) (hj : i + 1 = j) (hl : l.length ≤ 1000) (hB : B ≤ w.heap.size) :
    Calls Try.prog 34 #[v, .int .i64 (i : Int), .int .i64 (j : Int)] w (GivesB w B (l.eraseIdx i)) := by
  obtain ⟨ii, hii, hz0, hz1, hz2⟩ := vol_sizes
  obtain ⟨g, cap, rfl, hBg, hgl⟩ := h.form (by omega)
  obtain ⟨_, _, cur, hg, hn, hm, hcs, hpre⟩ := h.row
  rw [show volE.k = 3 from rfl] at hcs hpre
  obtain ⟨n, hnn⟩ : ∃ n, l.length = n := ⟨_, rfl⟩
  rw [hnn] at hi hl hn hpre
  rw [hnn]
  have hcapm : cap ≤ 9223372036854775807 := by unfold maxLen at hm; omega
  obtain ⟨A, hA⟩ : ∃ A : Addr, (if cap = j then some (⟨g, 0, none⟩ : Addr) else some ⟨g, j * 3, none⟩) = some A := by split <;> exact ⟨_, rfl⟩
  have e0 : (volE.all (l.drop (i + 1))).length = (n - j) * 3 := by rw [volE.all_len, List.length_drop, hnn, hj]; rfl
  have hnews : ∀ q u, (volE.all (l.drop (i + 1)))[q]? = some u → w.drew.cell? (A.add q) = some u := fun q u hu => by
    have hq : q < (n - j) * 3 := by rw [← e0]; exact (List.getElem?_eq_some_iff.1 hu).1
    have hcj : ¬ cap = j := fun e => by omega
    rw [if_neg hcj] at hA
    obtain rfl : (⟨g, j * 3, none⟩ : Addr) = A := Option.some.inj hA
    rw [addr_at]
    show w.cell? ⟨g, j * 3 + q, none⟩ = some u
    rw [row_cell hg, ← Array.getElem?_toList]
    refine getElem_of_prefix hpre ?_
    rw [← volE.all_drop, List.getElem?_drop] at hu
    rw [← hj]; exact hu
  have hap := run_append_room (P := Try.prog) w.drew 22 22 24 ii Try.underlying22 hii g i cap cur hg A (n - j) (cap - j) (volE.all (l.drop (i + 1))) (by rw [e0, hz1]) hnews (volE.all_one _) (by omega) (by rw [hz1, e0, hcs]; omega)
  rw [hz1] at hap
  obtain ⟨w1, hw1⟩ : ∃ W, W = w.drew.setRow g (overL cur.toList (i * 3) (volE.all (l.drop (i + 1)))).toArray := ⟨_, rfl⟩
  have hap' : (Builtin.append_ #[22, 22] 22 #[.slice (some ⟨g, 0, none⟩) i cap, .slice (some A) (n - j) (cap - j)]).run Try.prog w.drew = .ok (.slice (some ⟨g, 0, none⟩) (i + (n - j)) cap) w1 := by rw [hw1]; exact hap
  clear hap
  have hg1 : w1.heap[g]? = some (.cells (overL cur.toList (i * 3) (volE.all (l.drop (i + 1)))).toArray 24 (0, 0)) := by
    rw [hw1]; exact setRow_heap w.drew g cur _ _ _ hg
  obtain ⟨m, hmm⟩ : ∃ m, i + (n - j) = m := ⟨_, rfl⟩
  have hmn : n = m + 1 := by omega
  have hlen1 : (overL cur.toList (i * 3) (volE.all (l.drop (i + 1)))).length = cap * 3 := by
    rw [overL_length _ _ _ (by rw [e0, Array.length_toList, hcs]; omega), Array.length_toList, hcs]
  have hcl := rowk_clear (P := Try.prog) Try.underlying22 hii hz0 w1 g (m * 3) 1 (cap - m) (by decide) _ hg1 _ rfl (zero_one 1) (by rw [zero_len]; simp only [List.size_toArray]; rw [hlen1]; omega)
  rw [hmm] at hap'
  have hB1 : Below B w w1 := by
    rw [hw1]; exact below_setRow (Below.refl B w).drew hBg _
  obtain ⟨w2, hw2⟩ : ∃ W, W = w1.setRow g (overL (overL cur.toList (i * 3) (volE.all (l.drop (i + 1)))).toArray.toList (m * 3) (Builtin.zeroCells noVol.v.cells 1).toList).toArray := ⟨_, rfl⟩
  rw [← hw2] at hcl
  have hB2 : Below B w w2 := by rw [hw2]; exact below_setRow hB1 hBg _
  have hg2 := setRow_heap w1 g _ (overL (overL cur.toList (i * 3) (volE.all (l.drop (i + 1)))).toArray.toList (m * 3) (Builtin.zeroCells noVol.v.cells 1).toList).toArray _ _ hg1
  rw [← hw2] at hg2
  have hel : (l.eraseIdx i).length = m := by rw [List.length_eraseIdx_of_lt (by omega), hnn]; omega
  have hfin : OwnE volE w2 B 24 (.slice (some ⟨g, 0, none⟩) (l.eraseIdx i).length cap) (l.eraseIdx i) := by
    refine OwnE.ofRow hBg hg2 (by omega) hm ?_ ?_
    · simp only [List.size_toArray]
      rw [overL_length _ _ _ (by rw [zero_len]; show m * 3 + 1 * 3 ≤ (overL cur.toList (i * 3) (volE.all (l.drop (i + 1)))).length; rw [hlen1]; omega)]
      exact hlen1
    · refine cut_out (by omega) (by rw [hnn, Array.length_toList, hcs]; show n * 3 ≤ _; omega) (by rw [hnn]; exact hpre) _ _ ?_
      rw [hnn, hj, hmm]; rfl
  rw [hel] at hfin
  have hfinH := Lib.hid hfin
  have hcl1 : ∀ ty, (Builtin.clear_ #[22] ty #[.slice (some ⟨g, m * 3, none⟩) 1 (cap - m)]).run Try.prog w1 = .ok (.tuple #[]) w2 := hcl
  have q1 : (i : Int) ≤ (j : Int) := by omega
  have q2 : (j : Int) ≤ (n : Int) := by omega
  have q3 : (n : Int) ≤ (cap : Int) := by omega
  have q4 : ((i : Int) == (j : Int)) = false := by rw [beq_eq_false_iff_ne]; omega
  have q5 : (m : Int) ≤ (n : Int) := by omega
  have q6 : n - m = 1 := by omega
  have q7 : ¬ (cap = m) := by omega
  have q8 : ¬ (j = i) := by omega
  have q9 : ¬ (i = j) := by omega
  have q10 : i ≤ j := by omega
  have q11 : j ≤ n := by omega
  have q12 : n ≤ cap := by omega
  have q13 : m ≤ n := by omega
  have q14 : (i : Int) ≤ (cap : Int) := by omega
  have q15 : i ≤ cap := by omega
  have q16 : (j : Int) ≤ (cap : Int) := by omega
  have q17 : (0 : Int) ≤ (i : Int) := by omega
  have q18 : (0 : Int) ≤ (j : Int) := by omega
  clear hcl h hnews hg hpre hfin hw1 hw2 hg1 hg2 hlen1 e0 hel hmm hmn hj hcs hnn
  go_enter Try.func34, Try.ntmps34
  go_wp2_with (fail)
  skip
  go_region_law (refine step_append_run hap' _ _ rfl rfl rfl (by simp [Act.eval, Act.put]) (by simp [Act.eval, Act.put, hA]) ?_)
  go_wp2_with (fail)
  go_ret
  exact ⟨_, rfl, hfinH.out, hB2⟩
end Go.Proofs.Ytfmgoamgcjipkaa
