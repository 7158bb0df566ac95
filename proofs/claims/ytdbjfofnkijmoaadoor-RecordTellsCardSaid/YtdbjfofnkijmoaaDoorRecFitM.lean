/- record: raw records made right; plain. -/
import Derived.Test.YtdbjfofnkijmoaaDoorRecDTake
import Derived.Test.YtdbjfofnkijmoaaDoorRecWalk12
import Derived.Deep.RegionHeld3
import Derived.IntWalk
namespace Go.Proofs.YtdbjfofnkijmoaaDoor
open Go.RowKit
set_option linter.unusedVariables false
set_option linter.unusedSimpArgs false

open Rc
theorem pick7_any (c n : Int) (w : World) (h1 : -9223372036854775808 ≤ c) (h2 : c ≤ 9223372036854775807) (h3 : 1 ≤ n) (h4 : n ≤ 9223372036854775807) :
    Calls Tryd.prog 61 #[.int .i64 c, .int .i64 n] w fun e w' => e = .returned (.int .i64 (pk c n)) ∧ w = w' := by
  by_cases hc : c < 0
  · have hp : Hid (pk c n = -((c + 1).tmod n)) := Lib.hid (by unfold pk; rw [if_pos hc, ← Int.neg_tmod, Int.tmod_eq_emod_of_nonneg (by omega)])
    go_enter Tryd.func61, Tryd.ntmps61
    go_wp2
    go_ret
    exact ⟨by rw [hp.out]; rfl, rfl⟩
  · have hp : Hid (pk c n = c % n) := Lib.hid (by unfold pk; rw [if_neg hc])
    go_enter Tryd.func61, Tryd.ntmps61
    go_wp2
    go_ret
    exact ⟨by rw [hp.out]; rfl, rfl⟩

def fK (K : Int) : Int := 1 + pk K 4
def fM (M : Int) : Int := 1 + pk M 3
def fB (B : Int) : Int := 8 + pk B 193
theorem fit_right (K M B : Int) : gR (fK K) (fM M) (fB B) = true := by
  have h1 := pk_rng K 4 (by omega); have h2 := pk_rng M 3 (by omega); have h3 := pk_rng B 193 (by omega)
  exact gR_mk (by unfold fK fM fB; omega)
set_option maxRecDepth 100000 in
set_option maxHeartbeats 600000 in
theorem fit7_any (K M B : Int) (w : World) (k1 : -9223372036854775808 ≤ K) (k2 : K ≤ 9223372036854775807) (m1 : -9223372036854775808 ≤ M) (m2 : M ≤ 9223372036854775807) (b1 : -9223372036854775808 ≤ B) (b2 : B ≤ 9223372036854775807) :
    Calls Tryd.prog 40 #[.agg #[.int .i64 K, .int .i64 M, .int .i64 B]] w fun e w' => e = .returned (.agg #[.int .i64 (fK K), .int .i64 (fM M), .int .i64 (fB B)]) ∧ Below w.heap.size w w' := by
  have h1 := pk_rng K 4 (by omega); have h2 := pk_rng M 3 (by omega); have h3 := pk_rng B 193 (by omega)
  have v1 : IntKind.i64.wrap (1 + pk K 4) = fK K := IntWalk.i64_in _ (by omega)
  have v2 : IntKind.i64.wrap (1 + pk M 3) = fM M := IntWalk.i64_in _ (by omega)
  have v3 : IntKind.i64.wrap (8 + pk B 193) = fB B := IntWalk.i64_in _ (by omega)
  have hB0 : Below w.heap.size w ((w.alloc (.cells #[.int .i64 K, .int .i64 M, .int .i64 B] 23)).alloc (.cells #[.int .i64 0, .int .i64 0, .int .i64 0] 23)) := ((Below.refl _ _).alloc (Nat.le_refl _) _).alloc (by simp) _
  have hf0 : ∀ i, ((w.alloc (.cells #[.int .i64 K, .int .i64 M, .int .i64 B] 23)).alloc (.cells #[.int .i64 0, .int .i64 0, .int .i64 0] 23)).frozen? ⟨w.heap.size + 1, i, none⟩ = false := fun i => by simp
  go_enter Tryd.func40, Tryd.ntmps40
  go_wp2
  go_region_held3 (fun w' => w'.cell? ⟨w.heap.size, 0, none⟩ = some (.int .i64 K) ∧ w'.cell? ⟨w.heap.size, 1, none⟩ = some (.int .i64 M) ∧ w'.cell? ⟨w.heap.size, 2, none⟩ = some (.int .i64 B)) (first | (simp; done) | go_keep)
    (first | (go_at_call 61; refine (pick7_any _ _ _ (by omega) (by omega) (by omega) (by omega)).mono ?_; rintro e w' ⟨rfl, rfl⟩))
  all_goals go_wp2
  refine bodyPost_ret (v := .agg #[.int .i64 (fK K), .int .i64 (fM M), .int .i64 (fB B)]) ?_ rfl ⟨rfl, ?_⟩
  · simp only [results, Tryd.results40]
    simp [go_sem, v1, v2, v3]
  · exact (((Below.refl _ _).alloc (Nat.le_refl _) _).alloc (by simp) _).drew
/-- Which stripes: one raw number after the other, until sixteen are there. -/
def hasStep (n : Nat) (h : List Bool × Nat) (c : Int) : List Bool × Nat :=
  (h.1.set (pk c n).toNat true, if h.1.getD (pk c n).toNat false then h.2 else h.2 + 1)
def hasRun (n : Nat) : List Int → List Bool × Nat → List Bool × Nat
  | [], h => h
  | c :: cs, h => if h.2 < 16 then hasRun n cs (hasStep n h c) else h
def has0 (n : Nat) : List Bool × Nat := (List.replicate n false, 0)
def hasAll (n : Nat) (l : List Int) : List Bool := let h := hasRun n l (has0 n); if h.2 = 0 then h.1.set 0 true else h.1
/-- What holds of them. -/
structure HasOk (n : Nat) (h : List Bool × Nat) : Prop where
  l : h.1.length = n
  c : h.1.count true = h.2
  m : h.2 ≤ 16
theorem has0_ok (n : Nat) : HasOk n (has0 n) := ⟨by simp [has0], by simp [has0, List.count_replicate], Nat.zero_le _⟩
theorem count_set {l : List Bool} {i : Nat} (hi : i < l.length) : (l.set i true).count true = if l.getD i false then l.count true else l.count true + 1 := by
  induction l generalizing i with
  | nil => exact absurd hi (Nat.not_lt_zero _)
  | cons a l ih =>
    cases i with
    | zero => cases a <;> simp
    | succ i =>
      have := ih (i := i) (by simpa using hi)
      rw [List.set_cons_succ, List.count_cons, this, List.count_cons]
      simp only [List.getD_cons_succ]
      split <;> omega
theorem step_ok {n : Nat} {h : List Bool × Nat} (hk : HasOk n h) (hn : 1 ≤ n) (h16 : h.2 < 16) (c : Int) : HasOk n (hasStep n h c) := by
  have hp := pk_rng c n (by omega)
  have hi : (pk c n).toNat < h.1.length := by rw [hk.l]; omega
  refine ⟨by simp [hasStep, hk.l], ?_, ?_⟩
  · unfold hasStep
    simp only
    rw [count_set hi, hk.c]
  · unfold hasStep
    simp only
    split <;> omega
theorem run_ok {n : Nat} (hn : 1 ≤ n) : ∀ (l : List Int) (h : List Bool × Nat), HasOk n h → HasOk n (hasRun n l h)
  | [], h, hk => hk
  | c :: cs, h, hk => by
    unfold hasRun
    split
    · exact run_ok hn cs _ (step_ok hk hn (by assumption) c)
    · exact hk
theorem all_ok {n : Nat} (hn : 1 ≤ n) (l : List Int) : (hasAll n l).length = n ∧ 1 ≤ (hasAll n l).count true ∧ (hasAll n l).count true ≤ 16 := by
  have hk := run_ok hn l _ (has0_ok n)
  unfold hasAll
  simp only
  have hkc := hk.c
  have hkm := hk.m
  split
  · have hs := count_set (l := (hasRun n l (has0 n)).1) (i := 0) (by rw [hk.l]; omega)
    refine ⟨by rw [List.length_set]; exact hk.l, ?_⟩
    rw [hs]
    split
    · rename_i h0 h1
      have h2 : true ∈ (hasRun n l (has0 n)).1 := by
        rw [List.getD_eq_getElem?_getD, List.getElem?_eq_getElem (by rw [hk.l]; omega), Option.getD_some] at h1
        rw [← h1]; exact List.getElem_mem _
      have := List.count_pos_iff.2 h2
      omega
    · omega
  · exact ⟨hk.l, by omega, by omega⟩
/-- The texts of a stripe. -/
def letter (le : List Int) (k : Nat) : Int := if le.length = 0 then (k : Int) else le.getD (k % le.length) 0
def dataTo (le : List Int) (k j : Nat) : List ByteArray := (List.range j).map fun i => blockS (letter le (k + i))
theorem dataTo_succ (le : List Int) (k j : Nat) : dataTo le k (j + 1) = dataTo le k j ++ [blockS (letter le (k + j))] := by simp [dataTo, List.range_succ]
theorem dataTo_len (le : List Int) (k j : Nat) : (dataTo le k j).length = j := by simp [dataTo]
theorem dataTo_size (le : List Int) (k j : Nat) : ∀ t ∈ dataTo le k j, t.size = 120 := fun t ht => by
  obtain ⟨i, _, rfl⟩ := List.mem_map.1 ht
  exact blockS_size _
/-- The stripes below s. -/
def strTo (H : List Bool) (K : Nat) (le : List Int) : Nat → List (Int × List ByteArray)
  | 0 => []
  | s + 1 => strTo H K le s ++ (if H.getD s false then [((s : Int), dataTo le ((strTo H K le s).length * K) K)] else [])
theorem strTo_len (H : List Bool) (K : Nat) (le : List Int) : ∀ s, s ≤ H.length → (strTo H K le s).length = (H.take s).count true
  | 0, _ => by simp [strTo]
  | s + 1, h => by
    have ih := strTo_len H K le s (by omega)
    rw [strTo, List.length_append, ih, List.take_succ_eq_append_getElem (by omega), List.count_append, List.getD_eq_getElem?_getD, List.getElem?_eq_getElem (by omega), Option.getD_some]
    cases H[s] <;> simp
theorem strTo_mem (H : List Bool) (K : Nat) (le : List Int) : ∀ s, (∀ x ∈ strTo H K le s, 0 ≤ x.1 ∧ x.1 < (s : Int) ∧ x.2.length = K ∧ ∀ t ∈ x.2, t.size = 120) ∧ (strTo H K le s).Pairwise (fun x y => x.1 < y.1)
  | 0 => ⟨fun x hx => (by cases hx), List.Pairwise.nil⟩
  | s + 1 => by
    have ih := strTo_mem H K le s
    rw [strTo]
    split
    · refine ⟨fun x hx => ?_, ?_⟩
      · rcases List.mem_append.1 hx with hx | hx
        · have := ih.1 x hx; exact ⟨this.1, by omega, this.2.2⟩
        · rw [List.mem_singleton.1 hx]
          exact ⟨by simp, by simp; omega, dataTo_len _ _ _, dataTo_size _ _ _⟩
      · rw [List.pairwise_append]
        refine ⟨ih.2, List.pairwise_singleton _ _, fun x hx y hy => ?_⟩
        rw [List.mem_singleton.1 hy]
        exact (ih.1 x hx).2.1
    · rw [List.append_nil]
      exact ⟨fun x hx => by have := ih.1 x hx; exact ⟨this.1, by omega, this.2.2⟩, ih.2⟩
theorem incB_of {top : Int} : ∀ (l : List St) (last : Int), (∀ s ∈ l, last < s.n ∧ s.n < top) → l.Pairwise (fun a b => a.n < b.n) → incB top last l = true
  | [], _, _, _ => rfl
  | s :: l, last, h, hp => by
    have h1 := h s (List.mem_cons_self ..)
    rw [incB, decide_eq_false (by omega), decide_eq_false (by omega)]
    rw [List.pairwise_cons] at hp
    exact incB_of l s.n (fun t ht => ⟨hp.1 t ht, (h t (List.mem_cons_of_mem _ ht)).2⟩) hp.2
/-- A raw record, and what it is made. -/
structure Raw where
  k : Int
  m : Int
  b : Int
  q : Int
  st : List Int
  le : List Int
def Raw.n (r : Raw) : Nat := (gStripes (fK r.k) (fM r.m) (fB r.b)).toNat
def Raw.kk (r : Raw) : Nat := (fK r.k).toNat
def fitQ (r : Raw) : Int := 1 + pk r.q 1099511627776
def fitS (r : Raw) : List (Int × List ByteArray) := strTo (hasAll r.n r.st) r.kk r.le r.n
theorem raw_n (r : Raw) : (r.n : Int) = gStripes (fK r.k) (fM r.m) (fB r.b) ∧ 2 ≤ r.n ∧ r.n ≤ 203 ∧ (r.kk : Int) = fK r.k ∧ 1 ≤ r.kk ∧ r.kk ≤ 4 := by
  have h1 := pk_rng r.k 4 (by omega); have h2 := pk_rng r.m 3 (by omega); have h3 := pk_rng r.b 193 (by omega)
  have hK : 1 ≤ fK r.k ∧ fK r.k ≤ 4 := by unfold fK; omega
  have hB : 8 ≤ fB r.b ∧ fB r.b ≤ 200 := by unfold fB; omega
  have hS : gStripes (fK r.k) (fM r.m) (fB r.b) = (fB r.b + fK r.k - 1) / fK r.k := by unfold gStripes; rw [fit_right]; rfl
  have hl : 2 ≤ (fB r.b + fK r.k - 1) / fK r.k := (Int.le_ediv_iff_mul_le (by omega)).2 (by omega)
  have hu : (fB r.b + fK r.k - 1) / fK r.k ≤ 203 := Int.le_trans (Int.ediv_le_self _ (by omega)) (by omega)
  unfold Raw.n Raw.kk
  rw [hS]
  refine ⟨?_, ?_, ?_, ?_, ?_, ?_⟩ <;> omega
theorem fit_ok11 (r : Raw) {l : List St} (hl : l.map pr = fitS r) : rightB (fK r.k) (fM r.m) (fB r.b) (fitQ r) l = true := by
  obtain ⟨n1, n2, n3, k1, k2, k3⟩ := raw_n r
  obtain ⟨a1, a2, a3⟩ := all_ok (n := r.n) (by omega) r.st
  have hm := strTo_mem (hasAll r.n r.st) r.kk r.le r.n
  have hlen := strTo_len (hasAll r.n r.st) r.kk r.le r.n (by omega)
  rw [List.take_of_length_le (by omega)] at hlen
  have hll : l.length = (hasAll r.n r.st).count true := by have := congrArg List.length hl; rw [List.length_map] at this; rw [this]; exact hlen
  have hq := pk_rng r.q 1099511627776 (by omega)
  have hin : ∀ s ∈ l, pr s ∈ strTo (hasAll r.n r.st) r.kk r.le r.n := fun s hs => by
    show pr s ∈ fitS r
    rw [← hl]; exact List.mem_map.2 ⟨s, hs, rfl⟩
  have hpw : l.Pairwise (fun a b => a.n < b.n) := by
    have h2 := hm.2
    rw [show strTo (hasAll r.n r.st) r.kk r.le r.n = l.map pr from hl.symm, List.pairwise_map] at h2
    exact h2
  unfold rightB ordB
  simp only [Bool.and_eq_true, decide_eq_true_eq, List.all_eq_true]
  refine ⟨⟨fit_right _ _ _, by unfold fitQ; omega, by omega, incB_of l _ (fun s hs => ?_) hpw⟩, fun s hs => ?_⟩
  · have := hm.1 _ (hin s hs)
    have h1 : 0 ≤ s.n := this.1
    have h2 : s.n < (r.n : Int) := this.2.1
    omega
  · have := hm.1 _ (hin s hs)
    have h1 : s.d.length = r.kk := this.2.2.1
    unfold stB
    simp only [Bool.and_eq_true, beq_iff_eq]
    exact ⟨by omega, (txtB_iff _).2 this.2.2.2⟩
end Go.Proofs.YtdbjfofnkijmoaaDoor
