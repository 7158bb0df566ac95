/- dir: the document's own Add. -/
import Derived.Test.YtfmgoamgcjipkaaDirRef2
namespace Go.Proofs.Ytfmgoamgcjipkaa
open Go.RowKit
set_option linter.unusedVariables false
set_option linter.unusedSimpArgs false
open Dr

/-- What was put out behind k of them. -/
def outK (l : List Vol) (y : Vol) (k : Nat) : List Vol := if putN l y.n < k then l.take (putN l y.n) ++ y :: (l.take k).drop (putN l y.n) else l.take k
theorem outK_zero (l : List Vol) (y : Vol) : outK l y 0 = [] := by unfold outK; rw [if_neg (Nat.not_lt_zero _), List.take_zero]
theorem outK_len (l : List Vol) (y : Vol) (k : Nat) : (outK l y k).length ≤ l.length + 1 := by
  unfold outK; split
  · simp; omega
  · rw [List.length_take]; omega
theorem outK_succ {l : List Vol} {y : Vol} {k : Nat} (hk : k < l.length) (h : putN l y.n ≠ k) : outK l y (k + 1) = outK l y k ++ [at_ l k] := by
  unfold outK
  rw [at_get hk]
  by_cases h1 : putN l y.n < k
  · rw [if_pos h1, if_pos (by omega), List.take_succ_eq_append_getElem hk, List.drop_append_of_le_length (by rw [List.length_take]; omega)]
    simp
  · rw [if_neg h1, if_neg (by omega), List.take_succ_eq_append_getElem hk]
theorem outK_here {l : List Vol} {y : Vol} {k : Nat} (hk : k < l.length) (h : putN l y.n = k) : outK l y (k + 1) = outK l y k ++ [y] ++ [at_ l k] := by
  unfold outK
  rw [at_get hk, h, if_neg (Nat.lt_irrefl _), if_pos (by omega), List.take_succ_eq_append_getElem hk, List.drop_append_of_le_length (by rw [List.length_take]; omega), List.drop_of_length_le (by rw [List.length_take]; omega)]
  simp
theorem outK_all (l : List Vol) (y : Vol) (h : putN l y.n < l.length) : outK l y l.length = insL l y := by
  unfold outK insL; rw [if_pos h, List.take_length]
theorem outK_end (l : List Vol) (y : Vol) (h : ¬ putN l y.n < l.length) : outK l y l.length ++ [y] = insL l y := by
  have e : putN l y.n = l.length := by have := putN_le l y.n; omega
  unfold outK insL; rw [if_neg h, e, List.take_length, List.drop_length]
theorem OwnE.pushV {B : Nat} {v : Value} {l : List Vol} {w : World} (h : OwnE volE w B 24 v l) (hl : l.length ≤ 990) (hB : B ≤ w.heap.size) (y : Vol) :
    ∃ v' w', (Builtin.append_ #[22, 22] 22 #[v, .slice (some ⟨w.heap.size, 0, none⟩) 1 1]).run Try.prog (w.alloc (.cells #[.string y.n, .int .i64 y.s, .int .i64 y.r] 24)) = .ok v' w' ∧ OwnE volE w' B 24 v' (l ++ [y]) ∧ Below B w w' := by
  obtain ⟨i, hi, hz0, hz1, hz2⟩ := vol_sizes
  obtain ⟨v', w', h1, h2, h3, _⟩ := OwnE.push (P := Try.prog) (S := 22) Try.underlying22 hi hz0 hz1 hz2 rfl h y #[.string y.n, .int .i64 y.s, .int .i64 y.r] rfl hB (by omega) (by omega)
  exact ⟨v', w', h1, h2, h3⟩
set_option maxRecDepth 100000 in
set_option maxHeartbeats 8000000 in
theorem radd_any (v : Value) (l : List Vol) (y : Vol) (w : World) (hR : ReadsE volE w v l) (hl : l.length ≤ 900) (hs : y.n.size ≤ 140737488355328) : Calls Try.prog 11 #[v, y.v] w (GivesVE w (addL l y) (addE l y)) := by
  have hbox : Below w.heap.size w (w.alloc (.cells #[.string y.n, .int .i64 y.s, .int .i64 y.r] 24)) := (Below.refl _ _).alloc (Nat.le_refl _) _
  have hva := VolAt.made w y 24
  have cn := fun W => risname_any y.n W hs
  have cf := rfind_any v l y.n _ (hR.below hbox) (by omega)
  obtain ⟨a, cap, rfl, cl⟩ := items3 hR
  clear hR
  cases hn : nameB y.n with
  | false =>
    have hz : Hid (addE l y = 181) := Lib.hid (by unfold addE; rw [hn]; rfl)
    rw [hn] at cn
    unfold Vol.v
    go_enter Try.func11, Try.ntmps11
    go_wp2_with (go_at_call 22; refine (cn _).mono ?_; rintro e w' ⟨rfl, rfl⟩)
    go_ret2
    have e : addL l y = [] := by rw [addL, hz.out]; rfl
    rw [hz.out, e]
    exact nil_v w _ _ hbox
  | true =>
    rw [hn] at cn
    by_cases hf : findN l y.n < l.length
    · have hz : Hid (addE l y = 182) := Lib.hid (by unfold addE; rw [hn, if_pos rfl, if_pos hf])
      obtain ⟨q, hq⟩ : ∃ q, findN l y.n = q := ⟨_, rfl⟩
      rw [show findI l y.n = (q : Int) by rw [findI_lt hf, hq]] at cf
      have t1 : (0 : Int) ≤ (q : Int) := by omega
      clear hq
      unfold Vol.v
      go_enter Try.func11, Try.ntmps11
      go_wp2_with (first | (go_at_call 22; refine (cn _).mono ?_; rintro e w' ⟨rfl, rfl⟩) | (go_at_call 25; refine cf.mono ?_; rintro e w' ⟨rfl, rfl⟩))
      go_ret2
      have e : addL l y = [] := by rw [addL, hz.out]; rfl
      rw [hz.out, e]
      exact nil_v w _ _ hbox
    rw [findI_bad hf] at cf
    by_cases h8 : 8 ≤ l.length
    · have hz : Hid (addE l y = 184) := Lib.hid (by unfold addE; rw [hn, if_pos rfl, if_neg hf, if_pos h8])
      have t2 : (8 : Int) ≤ (l.length : Int) := by omega
      unfold Vol.v
      go_enter Try.func11, Try.ntmps11
      go_wp2_with (first | (go_at_call 22; refine (cn _).mono ?_; rintro e w' ⟨rfl, rfl⟩) | (go_at_call 25; refine cf.mono ?_; rintro e w' ⟨rfl, rfl⟩))
      go_ret2
      have e : addL l y = [] := by rw [addL, hz.out]; rfl
      rw [hz.out, e]
      exact nil_v w _ _ hbox
    have hz : Hid (addE l y = 0 ∧ addL l y = insL l y) := Lib.hid (by
      have e : addE l y = 0 := by unfold addE; rw [hn, if_pos rfl, if_neg hf, if_neg h8]
      exact ⟨e, by rw [addL, if_pos e]⟩)
    have t2 : ¬ ((8 : Int) ≤ (l.length : Int)) := by omega
    obtain ⟨p, hp⟩ : ∃ p, putN l y.n = p := ⟨_, rfl⟩
    have hple : p ≤ l.length := by rw [← hp]; exact putN_le l y.n
    have hbelow : ∀ j, j < p → lt y.n (at_ l j).n = false := fun j hj => idx_bad (p := fun o => lt y.n o.n) (by rw [← hp] at hj; exact hj)
    have hat : p < l.length → lt y.n (at_ l p).n = true := fun h => by rw [← hp] at h ⊢; exact idx_at (p := fun o => lt y.n o.n) h
    have hs0 : (w.alloc (.cells #[.string y.n, .int .i64 y.s, .int .i64 y.r] 24)).heap.size = w.heap.size + 1 := by simp
    obtain ⟨G, hG⟩ : ∃ G, w.heap.size = G := ⟨_, rfl⟩
    obtain ⟨w1, hw1⟩ : ∃ W, W = w.alloc (.cells #[.string y.n, .int .i64 y.s, .int .i64 y.r] 24) := ⟨_, rfl⟩
    have hpH := Lib.hid hp
    have hz0 : outK l y 0 = [] := outK_zero l y
    clear hp hf h8
    unfold Vol.v
    go_enter Try.func11, Try.ntmps11
    go_wp2_with (first | (go_at_call 22; refine (cn _).mono ?_; rintro e w' ⟨rfl, rfl⟩) | (go_at_call 25; refine cf.mono ?_; rintro e w' ⟨rfl, rfl⟩))
    clear cn cf
    rw [← hw1] at hbox hva hs0 ⊢
    rw [hG] at hva hbox hs0
    try rw [hG]
    clear hw1
    go_loopw [7, 8, 9] (fun o t i wr => ∃ k : Nat, k ≤ l.length ∧ i = .int .i64 (k : Int) ∧ t = .bool (decide (p < k)) ∧ OwnE volE wr w1.heap.size 24 o (outK l y k) ∧ Below w1.heap.size w1 wr) (fun _ _ i _ => l.length - (intOf i).toNat)
    case atStart => exact ⟨0, by omega, rfl, by rw [decide_eq_false (Nat.not_lt_zero _)], by rw [hz0]; exact OwnE.nil _ _ _ _, Below.refl _ _⟩
    case round =>
      obtain ⟨k, hk, rfl, rfl, ho, hB⟩ := hrel
      obtain ⟨o, rfl⟩ : ∃ o, u7 = o := ⟨_, rfl⟩
      rename World => wr
      have hBs := hB.size
      obtain ⟨g0, g1, g2, gl⟩ := hva.below hB (by omega)
      have hol := outK_len l y k
      by_cases hlt : k < l.length
      · have x1 : (k : Int) < (l.length : Int) := by omega
        obtain ⟨cb, co, rfl, hcb, hcl⟩ := cl k hlt
        have HB : Below w.heap.size w wr := by rw [hG]; exact hbox.trans (hB.mono (by omega))
        obtain ⟨d0, d1, d2⟩ := hcl wr HB
        have hcb' : cb < wr.heap.size := by omega
        have hol1 : (outK l y k).length ≤ 901 := by omega
        have hclH := Lib.hid hcl
        by_cases hpk : p < k
        · have f1 : decide (p < k) = true := decide_eq_true hpk
          have f2 : decide (p < k + 1) = true := decide_eq_true (by omega)
          have hnx : Hid (outK l y (k + 1) = outK l y k ++ [at_ l k]) := Lib.hid (outK_succ hlt (by rw [hpH.out]; omega))
          rw [f1]
          clear f1 hpk hbelow hat
          go_wp2_with (fail)
          go_quiet (fail)
          have hoq := ho.drewN nq
          have hBq : Below w1.heap.size w1 (wr.drewN nq) := hB.trans ((drew_below wr nq).mono hBs)
          have e0 : (wr.drewN nq).cell? ⟨cb, co + k * 3, none⟩ = some (.string (at_ l k).n) := d0
          have e1 : (wr.drewN nq).cell? ⟨cb, co + k * 3 + 1, none⟩ = some (.int .i64 (at_ l k).s) := d1
          have e2 : (wr.drewN nq).cell? ⟨cb, co + k * 3 + 2, none⟩ = some (.int .i64 (at_ l k).r) := d2
          have k0 : (wr.drewN nq).cell? ⟨G, 0, none⟩ = some (.string y.n) := g0
          have k1 : (wr.drewN nq).cell? ⟨G, 1, none⟩ = some (.int .i64 y.s) := g1
          have k2 : (wr.drewN nq).cell? ⟨G, 2, none⟩ = some (.int .i64 y.r) := g2
          clear d0 d1 d2 g0 g1 g2 gl ho hB hBs hcl
          generalize wr.drewN nq = wq at *
          have hBqs := hBq.size
          obtain ⟨v', w', hap, o', b'⟩ := hoq.pushV (by omega) hBqs (at_ l k)
          clear k0 k1 k2
          have BB := hBq.trans b'
          have o2H := Lib.hid o'
          clear o' b'
          go_wp2_with (at_builtin; refine wpList_append_run hap _ _ rfl rfl rfl rfl rfl ?_)
          go_roundw
          case rel => exact ⟨k + 1, by omega, by go_num, by rw [f2], by rw [hnx.out]; exact o2H.out, BB⟩
          case measure => simp [intOf]; omega
        have f1 : decide (p < k) = false := decide_eq_false hpk
        by_cases hpe : p = k
        · have hge := gt_of (hat (by omega))
          rw [hpe] at hge
          obtain ⟨m1, m2⟩ := hge
          have f2 : decide (p < k + 1) = true := decide_eq_true (by omega)
          have hnx : Hid (outK l y (k + 1) = outK l y k ++ [y] ++ [at_ l k]) := Lib.hid (outK_here hlt (by rw [hpH.out]; exact hpe))
          rw [f1]
          clear f1 hpk hbelow hat hpe
          go_wp2_with (fail)
          go_quiet (fail)
          have hoq := ho.drewN nq
          have hBq : Below w1.heap.size w1 (wr.drewN nq) := hB.trans ((drew_below wr nq).mono hBs)
          have e0 : (wr.drewN nq).cell? ⟨cb, co + k * 3, none⟩ = some (.string (at_ l k).n) := d0
          have e1 : (wr.drewN nq).cell? ⟨cb, co + k * 3 + 1, none⟩ = some (.int .i64 (at_ l k).s) := d1
          have e2 : (wr.drewN nq).cell? ⟨cb, co + k * 3 + 2, none⟩ = some (.int .i64 (at_ l k).r) := d2
          have k0 : (wr.drewN nq).cell? ⟨G, 0, none⟩ = some (.string y.n) := g0
          have k1 : (wr.drewN nq).cell? ⟨G, 1, none⟩ = some (.int .i64 y.s) := g1
          have k2 : (wr.drewN nq).cell? ⟨G, 2, none⟩ = some (.int .i64 y.r) := g2
          clear d0 d1 d2 g0 g1 g2 gl ho hB hBs hcl
          generalize wr.drewN nq = wq at *
          have hBqs := hBq.size
          obtain ⟨v1, w2, hap1, o1, b1⟩ := hoq.pushV (by omega) hBqs y
          have hB2 := hBq.trans b1
          have hB2s := hB2.size
          obtain ⟨v', w', hap, o', b'⟩ := o1.pushV (by rw [List.length_append]; simp; omega) hB2s (at_ l k)
          have HB2 : Below w.heap.size w w2 := by rw [hG]; exact hbox.trans (hB2.mono (by omega))
          obtain ⟨c0, c1, c2⟩ := hclH.out w2 HB2
          have BB := hB2.trans b'
          have o2H := Lib.hid o'
          clear o' b' o1 b1
          go_wp2_with (first | (at_builtin; refine wpList_append_run hap1 _ _ rfl rfl rfl rfl rfl ?_) | (at_builtin; refine wpList_append_run hap _ _ rfl rfl rfl rfl rfl ?_))
          go_roundw
          case rel => exact ⟨k + 1, by omega, by go_num, by rw [f2], by rw [hnx.out]; exact o2H.out, BB⟩
          case measure => simp [intOf]; omega
        have f2 : decide (p < k + 1) = false := decide_eq_false (by omega)
        have hnx : Hid (outK l y (k + 1) = outK l y k ++ [at_ l k]) := Lib.hid (outK_succ hlt (by rw [hpH.out]; exact hpe))
        rw [f1]
        rcases le_of (hbelow k (by omega)) with ⟨m1, m2⟩ | ⟨m1, m2⟩
        · clear f1 hpk hbelow hat hpe
          go_wp2_with (fail)
          go_quiet (fail)
          have hoq := ho.drewN nq
          have hBq : Below w1.heap.size w1 (wr.drewN nq) := hB.trans ((drew_below wr nq).mono hBs)
          have e0 : (wr.drewN nq).cell? ⟨cb, co + k * 3, none⟩ = some (.string (at_ l k).n) := d0
          have e1 : (wr.drewN nq).cell? ⟨cb, co + k * 3 + 1, none⟩ = some (.int .i64 (at_ l k).s) := d1
          have e2 : (wr.drewN nq).cell? ⟨cb, co + k * 3 + 2, none⟩ = some (.int .i64 (at_ l k).r) := d2
          have k0 : (wr.drewN nq).cell? ⟨G, 0, none⟩ = some (.string y.n) := g0
          have k1 : (wr.drewN nq).cell? ⟨G, 1, none⟩ = some (.int .i64 y.s) := g1
          have k2 : (wr.drewN nq).cell? ⟨G, 2, none⟩ = some (.int .i64 y.r) := g2
          clear d0 d1 d2 g0 g1 g2 gl ho hB hBs hcl
          generalize wr.drewN nq = wq at *
          have hBqs := hBq.size
          obtain ⟨v', w', hap, o', b'⟩ := hoq.pushV (by omega) hBqs (at_ l k)
          clear k0 k1 k2
          have BB := hBq.trans b'
          have o2H := Lib.hid o'
          clear o' b'
          go_wp2_with (at_builtin; refine wpList_append_run hap _ _ rfl rfl rfl rfl rfl ?_)
          go_roundw
          case rel => exact ⟨k + 1, by omega, by go_num, by rw [f2], by rw [hnx.out]; exact o2H.out, BB⟩
          case measure => simp [intOf]; omega
        · clear f1 hpk hbelow hat hpe
          go_wp2_with (fail)
          go_quiet (fail)
          have hoq := ho.drewN nq
          have hBq : Below w1.heap.size w1 (wr.drewN nq) := hB.trans ((drew_below wr nq).mono hBs)
          have e0 : (wr.drewN nq).cell? ⟨cb, co + k * 3, none⟩ = some (.string (at_ l k).n) := d0
          have e1 : (wr.drewN nq).cell? ⟨cb, co + k * 3 + 1, none⟩ = some (.int .i64 (at_ l k).s) := d1
          have e2 : (wr.drewN nq).cell? ⟨cb, co + k * 3 + 2, none⟩ = some (.int .i64 (at_ l k).r) := d2
          have k0 : (wr.drewN nq).cell? ⟨G, 0, none⟩ = some (.string y.n) := g0
          have k1 : (wr.drewN nq).cell? ⟨G, 1, none⟩ = some (.int .i64 y.s) := g1
          have k2 : (wr.drewN nq).cell? ⟨G, 2, none⟩ = some (.int .i64 y.r) := g2
          clear d0 d1 d2 g0 g1 g2 gl ho hB hBs hcl
          generalize wr.drewN nq = wq at *
          have hBqs := hBq.size
          obtain ⟨v', w', hap, o', b'⟩ := hoq.pushV (by omega) hBqs (at_ l k)
          clear k0 k1 k2
          have BB := hBq.trans b'
          have o2H := Lib.hid o'
          clear o' b'
          go_wp2_with (at_builtin; refine wpList_append_run hap _ _ rfl rfl rfl rfl rfl ?_)
          go_roundw
          case rel => exact ⟨k + 1, by omega, by go_num, by rw [f2], by rw [hnx.out]; exact o2H.out, BB⟩
          case measure => simp [intOf]; omega
      · have x1 : ¬ ((k : Int) < (l.length : Int)) := by omega
        obtain rfl : k = l.length := by omega
        by_cases hpk : p < l.length
        · have f1 : decide (p < l.length) = true := decide_eq_true hpk
          have e : Hid (outK l y l.length = insL l y) := Lib.hid (outK_all l y (by rw [hpH.out]; exact hpk))
          rw [f1]
          clear f1 hpk
          go_wp2_with (fail)
          go_ret2
          exact ⟨_, by rw [hz.out.1]; rfl, by rw [hz.out.2, ← e.out]; exact ho.mono (by omega), by rw [hG]; exact hbox.trans (hB.mono (by omega))⟩
        · have f1 : decide (p < l.length) = false := decide_eq_false hpk
          have e : Hid (outK l y l.length ++ [y] = insL l y) := Lib.hid (outK_end l y (by rw [hpH.out]; exact hpk))
          rw [f1]
          obtain ⟨v', w', hap, o', b'⟩ := ho.pushV (by omega) hBs y
          have BB := hB.trans b'
          clear f1 hpk
          go_wp2_with (at_builtin; refine wpList_append_run hap _ _ rfl rfl rfl rfl rfl ?_)
          go_ret2
          exact ⟨_, by rw [hz.out.1]; rfl, by rw [hz.out.2, ← e.out]; exact o'.mono (by omega), by rw [hG]; exact hbox.trans (BB.mono (by omega))⟩
end Go.Proofs.Ytfmgoamgcjipkaa
