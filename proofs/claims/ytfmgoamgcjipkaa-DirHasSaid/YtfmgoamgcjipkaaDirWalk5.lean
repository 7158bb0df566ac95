/- dir: slices.Insert. -/
import Derived.Test.YtfmgoamgcjipkaaDirWalk4
import Derived.Laws.Externs
import Derived.Shelf.Spec.SlicesInsert
namespace Go.Proofs.Ytfmgoamgcjipkaa
open Go.RowKit
set_option linter.unusedVariables false
set_option linter.unusedSimpArgs false
open Dr

theorem one_reads {w : World} {vb : Nat} {y : Vol} (hv : w.heap[vb]? = some (.cells #[.string y.n, .int .i64 y.s, .int .i64 y.r] 24 (0, 0))) : ReadsE volE w (.slice (some ⟨vb, 0, none⟩) 1 1) [y] :=
  .inr ⟨vb, 0, 1, rfl, (Array.getElem?_eq_some_iff.1 hv).1, fun j u hj => by
    rw [Nat.zero_add, row_cell hv, ← Array.getElem?_toList]
    rw [Enc.all_single] at hj
    exact hj⟩
set_option maxRecDepth 100000 in
set_option maxHeartbeats 4000000 in
theorem insert_end (v : Value) (l : List Vol) (y : Vol) (vb B : Nat) (w : World) (h : OwnE volE w B 24 v l) (hl : l.length ≤ 1000) (hB : B ≤ w.heap.size)
    (hv : w.heap[vb]? = some (.cells #[.string y.n, .int .i64 y.s, .int .i64 y.r] 24 (0, 0))) :
    Calls Try.prog 32 #[v, .int .i64 (l.length : Int), .slice (some ⟨vb, 0, none⟩) 1 1] w (GivesB w B (l ++ [y])) := by
  obtain ⟨ii, hii, hz0, hz1, hz2⟩ := vol_sizes
  obtain ⟨v', w', h1, h2, h3, _⟩ := OwnE.pushAll (P := Try.prog) (S := 22) Try.underlying22 hii hz0 hz1 hz2 rfl h (one_reads hv) hB (by simp; omega) (by simp; omega)
  rcases h.forms with ⟨rfl, rfl⟩ | ⟨g, cap, rfl, hBg, hgl⟩
  · clear h hv
    go_enter Try.func32, Try.ntmps32
    go_wp2_with (at_builtin; refine wpList_append_run h1 _ _ rfl rfl rfl rfl rfl ?_)
    go_ret
    exact ⟨v', rfl, h2, h3⟩
  · obtain ⟨_, _, cur, hg, hn, hm, hcs, hpre⟩ := h.row
    have hcapm : cap ≤ 9223372036854775807 := by unfold maxLen at hm; omega
    clear h hv hg hpre hcs hm
    go_enter Try.func32, Try.ntmps32
    go_wp2_with (at_builtin; refine wpList_append_run h1 _ _ rfl rfl rfl rfl rfl ?_)
    all_goals
      go_ret
      exact ⟨v', rfl, h2, h3⟩
set_option maxRecDepth 100000 in
set_option maxHeartbeats 4000000 in
theorem insert_mid (v : Value) (l : List Vol) (i : Nat) (y : Vol) (vb B : Nat) (w : World) (h : OwnE volE w B 24 v l) (hi : i < l.length) (hl : l.length ≤ 900) (hB : B ≤ w.heap.size)
    (hv : w.heap[vb]? = some (.cells #[.string y.n, .int .i64 y.s, .int .i64 y.r] 24 (0, 0))) (hne : v.ownBlock ≠ some vb) :
    Calls Try.prog 32 #[v, .int .i64 (i : Int), .slice (some ⟨vb, 0, none⟩) 1 1] w (GivesB w B (l.take i ++ y :: l.drop i)) := by
  have mixed : Try.prog.follows .mixedOrders = true := by kernel_rfl
  obtain ⟨ii, hii, hz0, hz1, hz2⟩ := vol_sizes
  obtain ⟨g, cap, rfl, hBg, hgl⟩ := h.form (by omega)
  obtain ⟨_, _, cur, hg, hn, hm, hcs, hpre⟩ := h.row
  rw [show volE.k = 3 from rfl] at hcs hpre
  have hne' : vb ≠ g := fun e => hne (by rw [e]; rfl)
  have hne2 : ¬ g = vb := fun e => hne' e.symm
  obtain ⟨n, hnn⟩ : ∃ n, l.length = n := ⟨_, rfl⟩
  have hL := l
  rw [hnn] at hi hl hn hpre
  rw [hnn]
  have hcapm : cap ≤ 9223372036854775807 := by unfold maxLen at hm; omega
  obtain ⟨n1, hn1⟩ : ∃ n1, n + 1 = n1 := ⟨_, rfl⟩
  obtain ⟨i1, hi1⟩ : ∃ i1, i + 1 = i1 := ⟨_, rfl⟩
  obtain ⟨k, hk⟩ : ∃ k, n1 - i = k := ⟨_, rfl⟩
  obtain ⟨d, hd⟩ : ∃ d, n - i = d := ⟨_, rfl⟩
  have e0 : (volE.all (l.drop i)).length = d * 3 := by rw [volE.all_len, List.length_drop, hnn, hd]; rfl
  have ef : (volE.f y).length = 3 := rfl
  have hres : (l.take i ++ y :: l.drop i).length = n1 := by simp; omega
  have hyc : ∀ (W : World), W.heap[vb]? = w.heap[vb]? → ∀ q u, (volE.f y)[q]? = some u → W.cell? ((⟨vb, 0, none⟩ : Addr).add q) = some u := fun W hW q u hu => by
    rw [addr_at, Nat.zero_add, row_cell (hW.trans hv), ← Array.getElem?_toList]; exact hu
  have hsc : ∀ (W : World), W.heap[g]? = w.heap[g]? → ∀ q u, (volE.all (l.drop i))[q]? = some u → W.cell? ((⟨g, i * 3, none⟩ : Addr).add q) = some u := fun W hW q u hu => by
    rw [addr_at, row_cell (hW.trans hg), ← Array.getElem?_toList]
    refine getElem_of_prefix hpre ?_
    rw [← volE.all_drop, List.getElem?_drop] at hu
    exact hu
  have w1 : IntKind.i64.wrap ((n : Int) + 1) = (n1 : Int) := by rw [IntWalk.i64_in _ (by omega)]; omega
  have w2 : IntKind.i64.wrap ((i : Int) + 1) = (i1 : Int) := by rw [IntWalk.i64_in _ (by omega)]; omega
  have w3 : IntKind.i64.wrap ((n1 : Int) - (i : Int)) = (k : Int) := by rw [IntWalk.i64_in _ (by omega)]; omega
  have q0 : ((i : Int) == (n : Int)) = false := by rw [beq_eq_false_iff_ne]; omega
  have q0n : (i == n) = false := by rw [beq_eq_false_iff_ne]; omega
  have q1 : (i : Int) ≤ (n : Int) := by omega
  have q2 : (i : Int) ≤ (cap : Int) := by omega
  have q3 : ¬ (cap = i) := by omega
  have q4 : (n : Int) ≤ (cap : Int) := by omega
  have q5 : (i1 : Int) ≤ (n1 : Int) := by omega
  have q6 : (i : Int) ≤ (n1 : Int) := by omega
  have q7 : n - i = d := by omega
  have q8 : n1 - i1 = d := by omega
  have q9 : n1 - i = k := by omega
  have q10 : Nat.min k d = d := by show min k d = d; omega
  have q11 : Nat.min 1 k = 1 := by show min 1 k = 1; omega
  have q12 : Nat.min d d = d := by show min d d = d; omega
  have q13 : i ≤ n := by omega
  have q14 : i ≤ cap := by omega
  have q15 : i ≤ n1 := by omega
  have q16 : i1 ≤ n1 := by omega
  by_cases hroom : n1 ≤ cap
  · have r1 : decide ((cap : Int) < (n1 : Int)) = false := by rw [decide_eq_false_iff_not]; omega
    have r1n : decide (cap < n1) = false := by rw [decide_eq_false_iff_not]; omega
    have r2 : (n1 : Int) ≤ (cap : Int) := by omega
    have r3 : ¬ (cap = i1) := by omega
    have hsa : w.shape? vb = some (24, 3) := by simp [World.shape?, hv]
    have hsb : w.shape? g = some (24, cap * 3) := by simp [World.shape?, hg, hcs]
    have hfa : w.frozen? ⟨vb, 0, none⟩ = false := by simp [World.frozen?, hv]
    have hfe : w.frozen? ⟨vb, 3, none⟩ = false := by simp [World.frozen?, hv]
    have hov : ∀ lb cb, (callFunc 49 #[.slice (some ⟨vb, 0, none⟩) 1 1, .slice (some ⟨g, i1 * 3, none⟩) lb cb]).run Try.prog w = .ok (.value (.bool false)) w := fun lb cb => by
      rw [run_callFunc_extern Try.func49 (by kernel_rfl) (by kernel_rfl) (by kernel_rfl) (e := Extern.SlicesOverlaps.overlaps #[22, 22] #[4]) (by kernel_rfl),
        Lib.run_overlaps_apart w 22 4 24 Try.underlying22 3 (fun w => by simp [sizeOf, typeInfo, hii, hz1]) ⟨vb, 0, none⟩ ⟨g, i1 * 3, none⟩ 1 1 lb cb hne' _ _ 3 (cap * 3) hsa hsb (by omega) hfa hfe]
      rfl
    have hg' : w.drew.heap[g]? = some (.cells cur 24 (0, 0)) := hg
    have cp1 := fun ty dc sc => rowk_copy (P := Try.prog) (T := 22) Try.underlying22 hii w.drew g (i1 * 3) d dc cur hg' ⟨g, i * 3, none⟩ k sc 22 ty d q10 (volE.all (l.drop i)) (by rw [e0, hz1]) (hsc w.drew rfl) (volE.all_one _) (by rw [e0, hcs]; omega)
    obtain ⟨W1, hW1⟩ : ∃ W, W = w.drew.setRow g (overL cur.toList (i1 * 3) (volE.all (l.drop i))).toArray := ⟨_, rfl⟩
    rw [← hW1] at cp1
    have hg1 := setRow_heap w.drew g cur (overL cur.toList (i1 * 3) (volE.all (l.drop i))).toArray _ _ hg'
    rw [← hW1] at hg1
    have hlen1 : (overL cur.toList (i1 * 3) (volE.all (l.drop i))).length = cap * 3 := by
      rw [overL_length _ _ _ (by rw [e0, Array.length_toList, hcs]; omega), Array.length_toList, hcs]
    have hB1 : Below B w W1 := by rw [hW1]; exact below_setRow (Below.refl B w).drew hBg _
    have hv1 : W1.heap[vb]? = w.heap[vb]? := by rw [hW1]; exact setRow_other w.drew g vb _ hne'
    have cp2 := fun ty dc sc => rowk_copy (P := Try.prog) (T := 22) Try.underlying22 hii W1 g (i * 3) k dc _ hg1 ⟨vb, 0, none⟩ 1 sc 22 ty 1 q11 (volE.f y) (by rw [ef, hz1]) (hyc W1 hv1) (volE.one y) (by rw [ef]; simp only [List.size_toArray]; rw [hlen1]; omega)
    obtain ⟨W2, hW2⟩ : ∃ W, W = W1.setRow g (overL (overL cur.toList (i1 * 3) (volE.all (l.drop i))).toArray.toList (i * 3) (volE.f y)).toArray := ⟨_, rfl⟩
    rw [← hW2] at cp2
    have hg2 := setRow_heap W1 g _ (overL (overL cur.toList (i1 * 3) (volE.all (l.drop i))).toArray.toList (i * 3) (volE.f y)).toArray _ _ hg1
    rw [← hW2] at hg2
    have hB2 : Below B w W2 := by rw [hW2]; exact below_setRow hB1 hBg _
    have hfin : OwnE volE W2 B 24 (.slice (some ⟨g, 0, none⟩) (l.take i ++ y :: l.drop i).length cap) (l.take i ++ y :: l.drop i) := by
      refine OwnE.ofRow hBg hg2 (by omega) hm ?_ ?_
      · simp only [List.size_toArray]
        rw [overL_length _ _ _ (by rw [ef]; show i * 3 + 3 ≤ (overL cur.toList (i1 * 3) (volE.all (l.drop i))).length; rw [hlen1]; omega)]
        exact hlen1
      · have := put_room (E := volE) (cur := cur.toList) (l := l) (i := i) y (by omega) (by rw [hnn, Array.length_toList, hcs]; show (n + 1) * 3 ≤ _; omega) (by rw [hnn]; exact hpre)
        rw [hi1] at this
        exact this
    rw [hres] at hfin
    have hfinH := Lib.hid hfin
    have hz : Hid (n1 = n1) := Lib.hid rfl
    clear h hfin hg hg' hg1 hg2 hlen1 hW1 hW2 hv1 hyc hsc hpre hv hcs e0 ef hres hnn hn1 hi1 hk hd hm hsa hsb hfa hfe hne
    go_enter Try.func32, Try.ntmps32
    go_wp2_with (simp only [hov])
    go_region_law_o (refine step_copy_runI rfl _ _ 22 22 rfl _ _ (by simp [Act.eval, Act.put]) (by simp [Act.eval, Act.put]) (cp1 _ _ _) ?_)
    go_wp2_with (at_builtin; refine wpList_copy_runI _ rfl _ _ 22 22 rfl _ _ rfl rfl (cp2 _ _ _) ?_)
    go_ret
    exact ⟨_, rfl, hfinH.out, hB2⟩
  · have r1 : decide ((cap : Int) < (n1 : Int)) = true := by rw [decide_eq_true_eq]; omega
    have r1n : decide (cap < n1) = true := by rw [decide_eq_true_eq]; omega
    have hold : ∀ q u, (volE.all (l.take i))[q]? = some u → w.cell? ((⟨g, 0, none⟩ : Addr).add q) = some u := fun q u hu => by
      rw [addr_at, Nat.zero_add, row_cell hg, ← Array.getElem?_toList]
      refine getElem_of_prefix hpre ?_
      rw [← volE.all_take] at hu
      rw [List.getElem?_take] at hu
      split at hu
      · exact hu
      · cases hu
    have el : (volE.all (l.take i)).length = i * 3 := by rw [volE.all_len, List.length_take, hnn, Nat.min_eq_left (by omega)]; rfl
    have ik : i + k = n1 := by omega
    have hap := fun ty => rowk_grow_zeros (P := Try.prog) w 22 3 ty 24 ii _ .i64 .i64 Try.underlying22 Try.underlying3 hii hz0 ⟨g, 0, none⟩ i cap (volE.all (l.take i)) (by rw [el, hz1]) hold k (by omega) (by rw [hz1]; decide) (by omega) (by omega) (by rw [hz2]; decide)
    rw [ik] at hap
    have hCge := grownCap_ge w n1 cap 24
    have hCle := grownCap_le_maxLen w n1 cap 24 (by unfold maxLen; omega)
    generalize grownCap w n1 cap 24 = C at *
    obtain ⟨c0, hc0⟩ : ∃ c : Array Value, c = (volE.all (l.take i)).toArray ++ Builtin.zeroCells noVol.v.cells k ++ Builtin.zeroCells noVol.v.cells (C - n1) := ⟨_, rfl⟩
    rw [← hc0] at hap
    have hcz : c0.size = C * 3 := by
      have a1 := zero_len k
      have a2 := zero_len (C - n1)
      rw [Array.length_toList] at a1 a2
      rw [hc0]; simp only [Array.size_append, List.size_toArray]; rw [el, a1, a2]; omega
    have hcp : c0.toList.take (i * 3) = volE.all (l.take i) := by
      rw [hc0]; simp only [Array.toList_append, List.append_assoc]
      rw [List.take_append_of_le_length (by omega), List.take_of_length_le (by omega)]
    obtain ⟨G, hG⟩ : ∃ G, w.heap.size = G := ⟨_, rfl⟩
    obtain ⟨W0, hW0⟩ : ∃ W, W = w.drew.alloc (.cells c0 24) := ⟨_, rfl⟩
    rw [← hW0, hG] at hap
    have hg0 : W0.heap[G]? = some (.cells c0 24 (0, 0)) := by rw [hW0, ← hG]; exact heap_alloc_new w.drew _
    have old0 : ∀ b, b < w.heap.size → W0.heap[b]? = w.heap[b]? := fun b hb => by rw [hW0]; exact Below.heap_alloc w.drew _ b hb
    have hvl : vb < w.heap.size := (Array.getElem?_eq_some_iff.1 hv).1
    have hBG : B ≤ G := by omega
    have hB0 : Below B w W0 := by rw [hW0]; exact (Below.refl B w).drew.alloc hB _
    have cp1 := fun ty dc sc => rowk_copy (P := Try.prog) (T := 22) Try.underlying22 hii W0 G (i * 3) k dc c0 hg0 ⟨vb, 0, none⟩ 1 sc 22 ty 1 q11 (volE.f y) (by rw [ef, hz1]) (hyc W0 (old0 _ hvl)) (volE.one y) (by rw [ef, hcz]; omega)
    obtain ⟨W1, hW1⟩ : ∃ W, W = W0.setRow G (overL c0.toList (i * 3) (volE.f y)).toArray := ⟨_, rfl⟩
    rw [← hW1] at cp1
    have hg1 := setRow_heap W0 G c0 (overL c0.toList (i * 3) (volE.f y)).toArray _ _ hg0
    rw [← hW1] at hg1
    have hlen1 : (overL c0.toList (i * 3) (volE.f y)).length = C * 3 := by
      rw [overL_length _ _ _ (by rw [ef, Array.length_toList, hcz]; omega), Array.length_toList, hcz]
    have hB1 : Below B w W1 := by rw [hW1]; exact below_setRow hB0 hBG _
    have old1 : W1.drew.heap[g]? = w.heap[g]? := by
      show W1.heap[g]? = _
      rw [hW1, setRow_other W0 G g _ (by omega)]; exact old0 _ hgl
    have hg1' : W1.drew.heap[G]? = some (.cells (overL c0.toList (i * 3) (volE.f y)).toArray 24 (0, 0)) := hg1
    have cp2 := fun ty dc sc => rowk_copy (P := Try.prog) (T := 22) Try.underlying22 hii W1.drew G (i1 * 3) d dc _ hg1' ⟨g, i * 3, none⟩ d sc 22 ty d q12 (volE.all (l.drop i)) (by rw [e0, hz1]) (hsc W1.drew old1) (volE.all_one _) (by rw [e0]; simp only [List.size_toArray]; rw [hlen1]; omega)
    obtain ⟨W2, hW2⟩ : ∃ W, W = W1.drew.setRow G (overL (overL c0.toList (i * 3) (volE.f y)).toArray.toList (i1 * 3) (volE.all (l.drop i))).toArray := ⟨_, rfl⟩
    rw [← hW2] at cp2
    have hg2 := setRow_heap W1.drew G _ (overL (overL c0.toList (i * 3) (volE.f y)).toArray.toList (i1 * 3) (volE.all (l.drop i))).toArray _ _ hg1'
    rw [← hW2] at hg2
    have hB2 : Below B w W2 := by rw [hW2]; exact below_setRow hB1.drew hBG _
    have hfin : OwnE volE W2 B 24 (.slice (some ⟨G, 0, none⟩) (l.take i ++ y :: l.drop i).length C) (l.take i ++ y :: l.drop i) := by
      refine OwnE.ofRow hBG hg2 (by omega) hCle ?_ ?_
      · simp only [List.size_toArray]
        rw [overL_length _ _ _ (by rw [e0]; show i1 * 3 + d * 3 ≤ (overL c0.toList (i * 3) (volE.f y)).length; rw [hlen1]; omega)]
        exact hlen1
      · have := put_grow (E := volE) (cur := c0.toList) (l := l) (i := i) y (by omega) (by rw [hnn, Array.length_toList, hcz]; show (n + 1) * 3 ≤ _; omega) hcp
        rw [hi1] at this
        exact this
    rw [hres] at hfin
    have hfinH := Lib.hid hfin
    have r2 : (i : Int) ≤ (C : Int) := by omega
    have r3 : ¬ (C = i) := by omega
    have r4 : ¬ (C = i1) := by omega
    have r5 : (n1 : Int) ≤ (C : Int) := by omega
    clear h hfin hg hg0 hg1 hg1' hg2 hlen1 hW0 hW1 hW2 old0 old1 hyc hsc hold hpre hv hcs e0 ef el hres hnn hn1 hi1 hk hd hm hne hc0 hcz hcp hCge hCle hvl ik hG
    go_enter Try.func32, Try.ntmps32
    go_wp2_with (first | (at_builtin; refine Lib.wpList_append_run _ rfl _ _ _ _ rfl _ _ rfl rfl _ _ (hap _) ?_) | (at_builtin; refine wpList_copy_runI _ rfl _ _ 22 22 rfl _ _ rfl rfl (cp1 _ _ _) ?_))
    go_region_law_o (refine step_copy_runI rfl _ _ 22 22 rfl _ _ (by simp [Act.eval, Act.put]) (by simp [Act.eval, Act.put]) (cp2 _ _ _) ?_)
    go_wp2_with (fail)
    go_ret
    exact ⟨_, rfl, hfinH.out, hB2⟩
end Go.Proofs.Ytfmgoamgcjipkaa
