/- Lrecc: what this claim reaches of RecFitM, RecFit, RecBkM and others. -/
import Derived.Test.YtfadglcpapiklaaGreatDoorLrecb
import Derived.Test.YtfadglcpapiklaaGreatDoorLreca
import Derived.Deep.RegionHeld3
import Derived.IntWalk
import Derived.Deep.CutRange
import Derived.Test.YtfadglcpapiklaaGreatDoorLbase
import Derived.Deep.Slices
section
namespace Go.Proofs.YtfadglcpapiklaaGreatDoor
open Go.RowKit
set_option linter.unusedVariables false
set_option linter.unusedSimpArgs false

open Rc
theorem pick7_any11 (c n : Int) (w : World) (h1 : -9223372036854775808 ≤ c) (h2 : c ≤ 9223372036854775807) (h3 : 1 ≤ n) (h4 : n ≤ 9223372036854775807) :
    Calls Tryz.prog 75 #[.int .i64 c, .int .i64 n] w fun e w' => e = .returned (.int .i64 (pk11 c n)) ∧ w = w' := by
  by_cases hc : c < 0
  · have hp : Hid (pk11 c n = -((c + 1).tmod n)) := Lib.hid (by unfold pk11; rw [if_pos hc, ← Int.neg_tmod, Int.tmod_eq_emod_of_nonneg (by omega)])
    go_enter Tryz.func75, Tryz.ntmps75
    go_wp2
    go_ret
    exact ⟨by rw [hp.out]; rfl, rfl⟩
  · have hp : Hid (pk11 c n = c % n) := Lib.hid (by unfold pk11; rw [if_neg hc])
    go_enter Tryz.func75, Tryz.ntmps75
    go_wp2
    go_ret
    exact ⟨by rw [hp.out]; rfl, rfl⟩

def fK11 (K : Int) : Int := 1 + pk11 K 4
def fM11 (M : Int) : Int := 1 + pk11 M 3
def fB11 (B : Int) : Int := 8 + pk11 B 193
theorem fit_right11 (K M B : Int) : gR (fK11 K) (fM11 M) (fB11 B) = true := by
  have h1 := pk_rng11 K 4 (by omega); have h2 := pk_rng11 M 3 (by omega); have h3 := pk_rng11 B 193 (by omega)
  exact gR_mk (by unfold fK11 fM11 fB11; omega)
set_option maxRecDepth 100000 in
set_option maxHeartbeats 600000 in
theorem fit7_any11 (K M B : Int) (w : World) (k1 : -9223372036854775808 ≤ K) (k2 : K ≤ 9223372036854775807) (m1 : -9223372036854775808 ≤ M) (m2 : M ≤ 9223372036854775807) (b1 : -9223372036854775808 ≤ B) (b2 : B ≤ 9223372036854775807) :
    Calls Tryz.prog 35 #[.agg #[.int .i64 K, .int .i64 M, .int .i64 B]] w fun e w' => e = .returned (.agg #[.int .i64 (fK11 K), .int .i64 (fM11 M), .int .i64 (fB11 B)]) ∧ Below w.heap.size w w' := by
  have h1 := pk_rng11 K 4 (by omega); have h2 := pk_rng11 M 3 (by omega); have h3 := pk_rng11 B 193 (by omega)
  have v1 : IntKind.i64.wrap (1 + pk11 K 4) = fK11 K := IntWalk.i64_in _ (by omega)
  have v2 : IntKind.i64.wrap (1 + pk11 M 3) = fM11 M := IntWalk.i64_in _ (by omega)
  have v3 : IntKind.i64.wrap (8 + pk11 B 193) = fB11 B := IntWalk.i64_in _ (by omega)
  have hB0 : Below w.heap.size w ((w.alloc (.cells #[.int .i64 K, .int .i64 M, .int .i64 B] 23)).alloc (.cells #[.int .i64 0, .int .i64 0, .int .i64 0] 23)) := ((Below.refl _ _).alloc (Nat.le_refl _) _).alloc (by simp) _
  have hf0 : ∀ i, ((w.alloc (.cells #[.int .i64 K, .int .i64 M, .int .i64 B] 23)).alloc (.cells #[.int .i64 0, .int .i64 0, .int .i64 0] 23)).frozen? ⟨w.heap.size + 1, i, none⟩ = false := fun i => by simp
  go_enter Tryz.func35, Tryz.ntmps35
  go_wp2
  go_region_held3 (fun w' => w'.cell? ⟨w.heap.size, 0, none⟩ = some (.int .i64 K) ∧ w'.cell? ⟨w.heap.size, 1, none⟩ = some (.int .i64 M) ∧ w'.cell? ⟨w.heap.size, 2, none⟩ = some (.int .i64 B)) (first | (simp; done) | go_keep)
    (first | (go_at_call 75; refine (pick7_any11 _ _ _ (by omega) (by omega) (by omega) (by omega)).mono ?_; rintro e w' ⟨rfl, rfl⟩))
  all_goals go_wp2
  refine bodyPost_ret (v := .agg #[.int .i64 (fK11 K), .int .i64 (fM11 M), .int .i64 (fB11 B)]) ?_ rfl ⟨rfl, ?_⟩
  · simp only [results, Tryz.results35]
    simp [go_sem, v1, v2, v3]
  · exact (((Below.refl _ _).alloc (Nat.le_refl _) _).alloc (by simp) _).drew
/-- Which stripes: one raw number after the other, until sixteen are there. -/
def hasStep (n : Nat) (h : List Bool × Nat) (c : Int) : List Bool × Nat :=
  (h.1.set (pk11 c n).toNat true, if h.1.getD (pk11 c n).toNat false then h.2 else h.2 + 1)
def hasRun (n : Nat) : List Int → List Bool × Nat → List Bool × Nat
  | [], h => h
  | c :: cs, h => if h.2 < 16 then hasRun n cs (hasStep n h c) else h
def has0 (n : Nat) : List Bool × Nat := (List.replicate n false, 0)
def hasAll (n : Nat) (l : List Int) : List Bool := let h := hasRun n l (has0 n); if h.2 = 0 then h.1.set 0 true else h.1
/-- What holds of them. -/
structure HasOk (n : Nat) (h : List Bool × Nat) : Prop where
  l : h.1.length = n
  c : h.1.count true = h.2
  m : h.2 ≤ 16
theorem has0_ok (n : Nat) : HasOk n (has0 n) := ⟨by simp [has0], by simp [has0, List.count_replicate], Nat.zero_le _⟩
theorem count_set11 {l : List Bool} {i : Nat} (hi : i < l.length) : (l.set i true).count true = if l.getD i false then l.count true else l.count true + 1 := by
  induction l generalizing i with
  | nil => exact absurd hi (Nat.not_lt_zero _)
  | cons a l ih =>
    cases i with
    | zero => cases a <;> simp
    | succ i =>
      have := ih (i := i) (by simpa using hi)
      rw [List.set_cons_succ, List.count_cons, this, List.count_cons]
      simp only [List.getD_cons_succ]
      split <;> omega
theorem step_ok {n : Nat} {h : List Bool × Nat} (hk : HasOk n h) (hn : 1 ≤ n) (h16 : h.2 < 16) (c : Int) : HasOk n (hasStep n h c) := by
  have hp := pk_rng11 c n (by omega)
  have hi : (pk11 c n).toNat < h.1.length := by rw [hk.l]; omega
  refine ⟨by simp [hasStep, hk.l], ?_, ?_⟩
  · unfold hasStep
    simp only
    rw [count_set11 hi, hk.c]
  · unfold hasStep
    simp only
    split <;> omega
theorem run_ok {n : Nat} (hn : 1 ≤ n) : ∀ (l : List Int) (h : List Bool × Nat), HasOk n h → HasOk n (hasRun n l h)
  | [], h, hk => hk
  | c :: cs, h, hk => by
    unfold hasRun
    split
    · exact run_ok hn cs _ (step_ok hk hn (by assumption) c)
    · exact hk
theorem all_ok {n : Nat} (hn : 1 ≤ n) (l : List Int) : (hasAll n l).length = n ∧ 1 ≤ (hasAll n l).count true ∧ (hasAll n l).count true ≤ 16 := by
  have hk := run_ok hn l _ (has0_ok n)
  unfold hasAll
  simp only
  have hkc := hk.c
  have hkm := hk.m
  split
  · have hs := count_set11 (l := (hasRun n l (has0 n)).1) (i := 0) (by rw [hk.l]; omega)
    refine ⟨by rw [List.length_set]; exact hk.l, ?_⟩
    rw [hs]
    split
    · rename_i h0 h1
      have h2 : true ∈ (hasRun n l (has0 n)).1 := by
        rw [List.getD_eq_getElem?_getD, List.getElem?_eq_getElem (by rw [hk.l]; omega), Option.getD_some] at h1
        rw [← h1]; exact List.getElem_mem _
      have := List.count_pos_iff.2 h2
      omega
    · omega
  · exact ⟨hk.l, by omega, by omega⟩
/-- The texts of a stripe. -/
def letter (le : List Int) (k : Nat) : Int := if le.length = 0 then (k : Int) else le.getD (k % le.length) 0
def dataTo (le : List Int) (k j : Nat) : List ByteArray := (List.range j).map fun i => blockS11 (letter le (k + i))
theorem dataTo_succ (le : List Int) (k j : Nat) : dataTo le k (j + 1) = dataTo le k j ++ [blockS11 (letter le (k + j))] := by simp [dataTo, List.range_succ]
theorem dataTo_len (le : List Int) (k j : Nat) : (dataTo le k j).length = j := by simp [dataTo]
theorem dataTo_size (le : List Int) (k j : Nat) : ∀ t ∈ dataTo le k j, t.size = 120 := fun t ht => by
  obtain ⟨i, _, rfl⟩ := List.mem_map.1 ht
  exact blockS_size11 _
/-- The stripes below s. -/
def strTo (H : List Bool) (K : Nat) (le : List Int) : Nat → List (Int × List ByteArray)
  | 0 => []
  | s + 1 => strTo H K le s ++ (if H.getD s false then [((s : Int), dataTo le ((strTo H K le s).length * K) K)] else [])
theorem strTo_len (H : List Bool) (K : Nat) (le : List Int) : ∀ s, s ≤ H.length → (strTo H K le s).length = (H.take s).count true
  | 0, _ => by simp [strTo]
  | s + 1, h => by
    have ih := strTo_len H K le s (by omega)
    rw [strTo, List.length_append, ih, List.take_succ_eq_append_getElem (by omega), List.count_append, List.getD_eq_getElem?_getD, List.getElem?_eq_getElem (by omega), Option.getD_some]
    cases H[s] <;> simp
theorem strTo_mem (H : List Bool) (K : Nat) (le : List Int) : ∀ s, (∀ x ∈ strTo H K le s, 0 ≤ x.1 ∧ x.1 < (s : Int) ∧ x.2.length = K ∧ ∀ t ∈ x.2, t.size = 120) ∧ (strTo H K le s).Pairwise (fun x y => x.1 < y.1)
  | 0 => ⟨fun x hx => (by cases hx), List.Pairwise.nil⟩
  | s + 1 => by
    have ih := strTo_mem H K le s
    rw [strTo]
    split
    · refine ⟨fun x hx => ?_, ?_⟩
      · rcases List.mem_append.1 hx with hx | hx
        · have := ih.1 x hx; exact ⟨this.1, by omega, this.2.2⟩
        · rw [List.mem_singleton.1 hx]
          exact ⟨by simp, by simp; omega, dataTo_len _ _ _, dataTo_size _ _ _⟩
      · rw [List.pairwise_append]
        refine ⟨ih.2, List.pairwise_singleton _ _, fun x hx y hy => ?_⟩
        rw [List.mem_singleton.1 hy]
        exact (ih.1 x hx).2.1
    · rw [List.append_nil]
      exact ⟨fun x hx => by have := ih.1 x hx; exact ⟨this.1, by omega, this.2.2⟩, ih.2⟩
theorem incB_of {top : Int} : ∀ (l : List St) (last : Int), (∀ s ∈ l, last < s.n ∧ s.n < top) → l.Pairwise (fun a b => a.n < b.n) → incB top last l = true
  | [], _, _, _ => rfl
  | s :: l, last, h, hp => by
    have h1 := h s (List.mem_cons_self ..)
    rw [incB, decide_eq_false (by omega), decide_eq_false (by omega)]
    rw [List.pairwise_cons] at hp
    exact incB_of l s.n (fun t ht => ⟨hp.1 t ht, (h t (List.mem_cons_of_mem _ ht)).2⟩) hp.2
/-- A raw record, and what it is made. -/
structure Raw where
  k : Int
  m : Int
  b : Int
  q : Int
  st : List Int
  le : List Int
def Raw.n (r : Raw) : Nat := (gStripes (fK11 r.k) (fM11 r.m) (fB11 r.b)).toNat
def Raw.kk (r : Raw) : Nat := (fK11 r.k).toNat
def fitQ (r : Raw) : Int := 1 + pk11 r.q 1099511627776
def fitS (r : Raw) : List (Int × List ByteArray) := strTo (hasAll r.n r.st) r.kk r.le r.n
theorem raw_n (r : Raw) : (r.n : Int) = gStripes (fK11 r.k) (fM11 r.m) (fB11 r.b) ∧ 2 ≤ r.n ∧ r.n ≤ 203 ∧ (r.kk : Int) = fK11 r.k ∧ 1 ≤ r.kk ∧ r.kk ≤ 4 := by
  have h1 := pk_rng11 r.k 4 (by omega); have h2 := pk_rng11 r.m 3 (by omega); have h3 := pk_rng11 r.b 193 (by omega)
  have hK : 1 ≤ fK11 r.k ∧ fK11 r.k ≤ 4 := by unfold fK11; omega
  have hB : 8 ≤ fB11 r.b ∧ fB11 r.b ≤ 200 := by unfold fB11; omega
  have hS : gStripes (fK11 r.k) (fM11 r.m) (fB11 r.b) = (fB11 r.b + fK11 r.k - 1) / fK11 r.k := by unfold gStripes; rw [fit_right11]; rfl
  have hl : 2 ≤ (fB11 r.b + fK11 r.k - 1) / fK11 r.k := (Int.le_ediv_iff_mul_le (by omega)).2 (by omega)
  have hu : (fB11 r.b + fK11 r.k - 1) / fK11 r.k ≤ 203 := Int.le_trans (Int.ediv_le_self _ (by omega)) (by omega)
  unfold Raw.n Raw.kk
  rw [hS]
  refine ⟨?_, ?_, ?_, ?_, ?_, ?_⟩ <;> omega
theorem fit_ok11 (r : Raw) {l : List St} (hl : l.map pr = fitS r) : rightB (fK11 r.k) (fM11 r.m) (fB11 r.b) (fitQ r) l = true := by
  obtain ⟨n1, n2, n3, k1, k2, k3⟩ := raw_n r
  obtain ⟨a1, a2, a3⟩ := all_ok (n := r.n) (by omega) r.st
  have hm := strTo_mem (hasAll r.n r.st) r.kk r.le r.n
  have hlen := strTo_len (hasAll r.n r.st) r.kk r.le r.n (by omega)
  rw [List.take_of_length_le (by omega)] at hlen
  have hll : l.length = (hasAll r.n r.st).count true := by have := congrArg List.length hl; rw [List.length_map] at this; rw [this]; exact hlen
  have hq := pk_rng11 r.q 1099511627776 (by omega)
  have hin : ∀ s ∈ l, pr s ∈ strTo (hasAll r.n r.st) r.kk r.le r.n := fun s hs => by
    show pr s ∈ fitS r
    rw [← hl]; exact List.mem_map.2 ⟨s, hs, rfl⟩
  have hpw : l.Pairwise (fun a b => a.n < b.n) := by
    have h2 := hm.2
    rw [show strTo (hasAll r.n r.st) r.kk r.le r.n = l.map pr from hl.symm, List.pairwise_map] at h2
    exact h2
  unfold rightB ordB
  simp only [Bool.and_eq_true, decide_eq_true_eq, List.all_eq_true]
  refine ⟨⟨fit_right11 _ _ _, by unfold fitQ; omega, by omega, incB_of l _ (fun s hs => ?_) hpw⟩, fun s hs => ?_⟩
  · have := hm.1 _ (hin s hs)
    have h1 : 0 ≤ s.n := this.1
    have h2 : s.n < (r.n : Int) := this.2.1
    omega
  · have := hm.1 _ (hin s hs)
    have h1 : s.d.length = r.kk := this.2.2.1
    unfold stB
    simp only [Bool.and_eq_true, beq_iff_eq]
    exact ⟨by omega, (txtB_iff _).2 this.2.2.2⟩
end Go.Proofs.YtfadglcpapiklaaGreatDoor
end
section
namespace Go.Proofs.YtfadglcpapiklaaGreatDoor
open Go.RowKit
set_option linter.unusedVariables false
set_option linter.unusedSimpArgs false

open Rc
/-- A raw record in memory; what does not change. -/
structure FB (w : World) (p g : Nat) (r : Raw) (vs vl : Value) (wr : World) : Prop where
  a0 : wr.cell? ⟨p, 0, none⟩ = some (.int .i64 r.k)
  a1 : wr.cell? ⟨p, 1, none⟩ = some (.int .i64 r.m)
  a2 : wr.cell? ⟨p, 2, none⟩ = some (.int .i64 r.b)
  a3 : wr.cell? ⟨p, 3, none⟩ = some (.int .i64 r.q)
  a4 : wr.cell? ⟨p, 4, none⟩ = some vs
  a5 : wr.cell? ⟨p, 5, none⟩ = some vl
  z0 : wr.cell? ⟨p + 1, 0, none⟩ = some (.int .i64 0)
  z1 : wr.cell? ⟨p + 1, 1, none⟩ = some (.int .i64 0)
  z2 : wr.cell? ⟨p + 1, 2, none⟩ = some (.int .i64 0)
  f0 : wr.frozen? ⟨p + 1, 0, none⟩ = false
  f1 : wr.frozen? ⟨p + 1, 1, none⟩ = false
  f2 : wr.frozen? ⟨p + 1, 2, none⟩ = false
  y : RBx wr (p + 1 + 1) 0 (.slice none 0 0)
  gb : GBx wr g (fK11 r.k) (fM11 r.m) (fB11 r.b)
  hg : p + 3 ≤ g
  b : Below p w wr
theorem FB.to {w wr w' : World} {p g : Nat} {r : Raw} {vs vl : Value} (h : FB w p g r vs vl wr) (e : ∀ i, i < wr.heap.size → i ≤ g → w'.heap[i]? = wr.heap[i]?) (hs : wr.heap.size ≤ w'.heap.size) (hb : Below p w w') : FB w p g r vs vl w' := by
  have hgl := h.gb.lt
  have hg := h.hg
  have e0 := e p (by omega) (by omega)
  have e1 := e (p + 1) (by omega) (by omega)
  have e2 := e (p + 1 + 1) (by omega) (by omega)
  have e3 := e g hgl (Nat.le_refl _)
  exact ⟨(cell_of_heap11 e0 _).trans h.a0, (cell_of_heap11 e0 _).trans h.a1, (cell_of_heap11 e0 _).trans h.a2, (cell_of_heap11 e0 _).trans h.a3, (cell_of_heap11 e0 _).trans h.a4, (cell_of_heap11 e0 _).trans h.a5,
    (cell_of_heap11 e1 _).trans h.z0, (cell_of_heap11 e1 _).trans h.z1, (cell_of_heap11 e1 _).trans h.z2, (frozen_of_heap e1 _).trans h.f0, (frozen_of_heap e1 _).trans h.f1, (frozen_of_heap e1 _).trans h.f2, h.y.heap e2 hs, h.gb.heap e3 hs, h.hg, hb⟩
theorem FB.below {w wr w' : World} {p g : Nat} {r : Raw} {vs vl : Value} (h : FB w p g r vs vl wr) (hb : Below wr.heap.size wr w') : FB w p g r vs vl w' :=
  h.to (fun i hi _ => hb.block i hi) hb.size (h.b.trans (hb.mono (by have := h.gb.lt; have := h.hg; omega)))
theorem FB.drew {w wr : World} {p g : Nat} {r : Raw} {vs vl : Value} (h : FB w p g r vs vl wr) : FB w p g r vs vl wr.drew :=
  h.to (fun _ _ _ => rfl) (Nat.le_refl _) (h.b.trans ⟨rfl, rfl, rfl, Nat.le_refl _, fun _ _ => rfl⟩)
theorem FB.set {w wr : World} {p g : Nat} {r : Raw} {vs vl : Value} (h : FB w p g r vs vl wr) {c : Nat} (hc : g < c) (o : Nat) (u : Value) : FB w p g r vs vl (wr.setCell ⟨c, o, none⟩ u) :=
  h.to (fun i _ hi => Below.heap_setCell _ _ _ _ (by show i ≠ c; omega)) (by simp) (h.b.setCell (p := ⟨c, o, none⟩) (by have := h.hg; show p ≤ c; omega) _)
/-- The raw numbers are ints. -/
structure RawOk (r : Raw) : Prop where
  k : -9223372036854775808 ≤ r.k ∧ r.k ≤ 9223372036854775807
  m : -9223372036854775808 ≤ r.m ∧ r.m ≤ 9223372036854775807
  b : -9223372036854775808 ≤ r.b ∧ r.b ≤ 9223372036854775807
  q : -9223372036854775808 ≤ r.q ∧ r.q ≤ 9223372036854775807
  st : ∀ c ∈ r.st, -9223372036854775808 ≤ c ∧ c ≤ 9223372036854775807
  le : ∀ c ∈ r.le, -9223372036854775808 ≤ c ∧ c ≤ 9223372036854775807
  sn : r.st.length ≤ 140737488355328
  ln : r.le.length ≤ 140737488355328
def GivesF (w : World) (r : Raw) (e : Ending) (w' : World) : Prop :=
  ∃ v l, e = .returned (.tuple #[.agg #[.int .i64 (fK11 r.k), .int .i64 (fM11 r.m), .int .i64 (fB11 r.b)], .agg #[.int .i64 (fitQ r), v]]) ∧ SFam w' w.heap.size v l ∧ l.map pr = fitS r ∧ Below w.heap.size w w'
def Raw.v (r : Raw) (vs vl : Value) : Value := .agg #[.int .i64 r.k, .int .i64 r.m, .int .i64 r.b, .int .i64 r.q, vs, vl]
theorem letter_rng {r : Raw} (h : RawOk r) (k : Nat) (hk : k ≤ 10000) : -9223372036854775808 ≤ letter r.le k ∧ letter r.le k ≤ 9223372036854775807 := by
  unfold letter
  split
  · omega
  · have hi : k % r.le.length < r.le.length := Nat.mod_lt _ (by omega)
    rw [List.getD_eq_getElem?_getD, List.getElem?_eq_getElem hi, Option.getD_some]
    exact h.le _ (List.getElem_mem hi)
/-- The row of what is there. -/
structure HRow (w : World) (g c : Nat) (H : List Bool) : Prop where
  o : Own w 0 4 (.slice (some ⟨g, 0, none⟩) H.length c) (H.map .bool)
theorem HRow.lt {w : World} {g c : Nat} {H : List Bool} (h : HRow w g c H) : g < w.heap.size := (h.o.o.lt g rfl).2
theorem HRow.cell {w : World} {g c : Nat} {H : List Bool} (h : HRow w g c H) {i : Nat} (hi : i < H.length) : w.cell? ⟨g, i, none⟩ = some (.bool (H.getD i false)) := by
  rw [h.o.cell (by simpa using hi)]
  simp [List.getD_eq_getElem?_getD, List.getElem?_eq_getElem hi]
theorem HRow.frozen {w : World} {g c : Nat} {H : List Bool} (h : HRow w g c H) (i : Nat) : w.frozen? ⟨g, i, none⟩ = false := h.o.frozen i
theorem HRow.set {w : World} {g c : Nat} {H : List Bool} (h : HRow w g c H) (i : Nat) : HRow (w.setCell ⟨g, i, none⟩ (.bool true)) g c (H.set i true) := by
  refine ⟨?_⟩
  rw [List.length_set, List.map_set]
  exact h.o.set i _
theorem HRow.heap {w w' : World} {g c : Nat} {H : List Bool} (h : HRow w g c H) (e : w'.heap[g]? = w.heap[g]?) : HRow w' g c H := by
  refine ⟨⟨h.o.o.1, ?_⟩⟩
  rcases h.o.o.2 with h1 | ⟨g', cap, cur, h1, h2, h3, h4⟩
  · exact .inl h1
  · simp only [Value.slice.injEq, Option.some.injEq, Addr.mk.injEq] at h1
    obtain ⟨⟨rfl, _⟩, h1, rfl⟩ := h1
    exact .inr ⟨g, c, cur, by rw [h1], h2, by rw [e]; exact h3, h4⟩
theorem Tryz.infoBool : (Tryz.prog.info? 4).map (fun i => (i.zero, i.size, i.bytes)) = some (some (.bool false), 1, 1) := by kernel_rfl
theorem HRow.make_run (w : World) (n : Nat) (hn : n ≤ 1000) :
    ∃ w', (Instr.makeSlice 42 (.int .i64 (n : Int)) (.int .i64 (n : Int))).run Tryz.prog w = .ok (.slice (some ⟨w.heap.size, 0, none⟩) n n) w' ∧ HRow w' w.heap.size n (List.replicate n false) ∧ Below w.heap.size w w' := by
  obtain ⟨i0, hi, hz0, hz1, hz2⟩ := info_parts Tryz.infoBool
  obtain ⟨w', h1, h2, h3⟩ := Own.make_run (P := Tryz.prog) (T := 42) Tryz.underlying42 hi hz0 hz1 hz2 rfl w n (by omega) (by omega)
  refine ⟨w', h1, ⟨?_⟩, h3⟩
  rw [List.length_replicate, List.map_replicate]
  exact h2.mono (Nat.zero_le _)
/-- A geometry that is written. -/
theorem geo_put {w : World} {b : Nat} {a0 a1 a2 : Value} (h0 : w.cell? ⟨b, 0, none⟩ = some a0) (h1 : w.cell? ⟨b, 1, none⟩ = some a1) (h2 : w.cell? ⟨b, 2, none⟩ = some a2) (hb : b < w.heap.size) (K M B : Int) :
    GBx (((w.setCell ⟨b, 0, none⟩ (.int .i64 K)).setCell ⟨b, 1, none⟩ (.int .i64 M)).setCell ⟨b, 2, none⟩ (.int .i64 B)) b K M B := by
  refine ⟨?_, ?_, ?_, by simpa using hb⟩
  · rw [World.cell?_setCell_other _ _ _ _ (by simp), World.cell?_setCell_other _ _ _ _ (by simp)]; exact World.cell?_setCell_same' _ _ _ (by rw [h0]; rfl)
  · rw [World.cell?_setCell_other _ _ _ _ (by simp)]; exact World.cell?_setCell_same' _ _ _ (by rw [World.cell?_setCell_other _ _ _ _ (by simp), h1]; rfl)
  · exact World.cell?_setCell_same' _ _ _ (by rw [World.cell?_setCell_other _ _ _ _ (by simp), World.cell?_setCell_other _ _ _ _ (by simp), h2]; rfl)
theorem geo_heap (w : World) (b : Nat) (u0 u1 u2 : Value) {k : Nat} (hk : k ≠ b) : (((w.setCell ⟨b, 0, none⟩ u0).setCell ⟨b, 1, none⟩ u1).setCell ⟨b, 2, none⟩ u2).heap[k]? = w.heap[k]? := by
  rw [Below.heap_setCell _ _ _ _ hk, Below.heap_setCell _ _ _ _ hk, Below.heap_setCell _ _ _ _ hk]
theorem res_fit {tm : Array Value} {W : World} {b c : Nat} {K M B q : Int} {v : Value} (g : GBx W b K M B) (h : RBx W c q v) (h2 : tm.getD 2 undef = .pointer (some ⟨b, 0, none⟩)) (h3 : tm.getD 3 undef = .pointer (some ⟨c, 0, none⟩)) :
    (results Tryz.f10 tm).run Tryz.prog W = .ok (.tuple #[.agg #[.int .i64 K, .int .i64 M, .int .i64 B], .agg #[.int .i64 q, v]]) W := by
  have h2' : tm[2]?.getD undef = .pointer (some ⟨b, 0, none⟩) := by simpa using h2
  have h3' : tm[3]?.getD undef = .pointer (some ⟨c, 0, none⟩) := by simpa using h3
  simp [results, Tryz.results10, go_sem, h2', h3', g.c0, g.c1, g.c2, h.c0, h.c1]
/-- All that holds within a stripe. -/
structure JB (w : World) (p g : Nat) (r : Raw) (vs vl : Value) (hb n : Nat) (HH : List Bool) (x : Nat) (q : Int) (v : Value) (l : List St) (y : Nat) (s : Int) (u : Value) (dd : List ByteArray) (wr : World) : Prop where
  F : FB w p g r vs vl wr
  R : HRow wr hb n HH
  O : RBx wr x q v
  f : SFam wr (x + 1) v l
  s : RBx wr y s u
  d : Own wr (y + 1) 9 u (dd.map .string)
theorem JB.drewN {w wr : World} {p g : Nat} {r : Raw} {vs vl : Value} {hb n : Nat} {HH : List Bool} {x : Nat} {q : Int} {v : Value} {l : List St} {y : Nat} {s : Int} {u : Value} {dd : List ByteArray} (h : JB w p g r vs vl hb n HH x q v l y s u dd wr) (k : Nat) : JB w p g r vs vl hb n HH x q v l y s u dd (wr.drewN k) :=
  ⟨h.F.below (drew_below wr k), h.R.heap rfl, h.O.heap rfl (Nat.le_refl _), h.f.heap fun _ _ _ => rfl, h.s.heap rfl (Nat.le_refl _), h.d.after (drew_below wr k)⟩
set_option maxRecDepth 100000 in
set_option maxHeartbeats 4000000 in
theorem fit11_any (r : Raw) (vs vl : Value) (w : World) (hok : RawOk r) (hst : Reads w vs (r.st.map (.int .i64))) (hle : Reads w vl (r.le.map (.int .i64))) :
    Calls Tryz.prog 10 #[r.v vs vl] w (GivesF w r) := by
  obtain ⟨p, hp⟩ : ∃ p, w.heap.size = p := ⟨_, rfl⟩
  have hrn := raw_n r
  obtain ⟨sa, sc, hvs⟩ := hst.isSlice
  obtain ⟨la, lc, hvl⟩ := hle.isSlice
  rw [List.length_map] at hvs hvl
  subst hvs
  subst hvl
  unfold Raw.v
  go_enter Tryz.func10, Tryz.ntmps10
  go_wp2_with (fail)
  have cF := fun W => fit7_any11 r.k r.m r.b W hok.k.1 hok.k.2 hok.m.1 hok.m.2 hok.b.1 hok.b.2
  have hL1 := heap_alloc_new w (.cells #[.int .i64 r.k, .int .i64 r.m, .int .i64 r.b, .int .i64 r.q, .slice sa r.st.length sc, .slice la r.le.length lc] 26)
  have hB1 : Below p w (w.alloc (.cells #[.int .i64 r.k, .int .i64 r.m, .int .i64 r.b, .int .i64 r.q, .slice sa r.st.length sc, .slice la r.le.length lc] 26)) := (Below.refl _ _).alloc (by omega) _
  have hc0 : ∀ o, (w.alloc (.cells #[.int .i64 r.k, .int .i64 r.m, .int .i64 r.b, .int .i64 r.q, .slice sa r.st.length sc, .slice la r.le.length lc] 26)).cell? ⟨p, o, none⟩ = #[.int .i64 r.k, .int .i64 r.m, .int .i64 r.b, .int .i64 r.q, .slice sa r.st.length sc, .slice la r.le.length lc][o]? := fun o => by rw [← hp, World.cell?_alloc_mark]
  have hsz1 : (w.alloc (.cells #[.int .i64 r.k, .int .i64 r.m, .int .i64 r.b, .int .i64 r.q, .slice sa r.st.length sc, .slice la r.le.length lc] 26)).heap.size = p + 1 := by simp [hp]
  generalize w.alloc (.cells #[.int .i64 r.k, .int .i64 r.m, .int .i64 r.b, .int .i64 r.q, .slice sa r.st.length sc, .slice la r.le.length lc] 26) = wa at *
  have hB2 : Below (p + 1) wa (wa.alloc (.cells #[.int .i64 0, .int .i64 0, .int .i64 0] 23)) := (Below.refl _ _).alloc (by omega) _
  have hz0 : ∀ o, (wa.alloc (.cells #[.int .i64 0, .int .i64 0, .int .i64 0] 23)).cell? ⟨p + 1, o, none⟩ = #[.int .i64 0, .int .i64 0, .int .i64 0][o]? := fun o => by rw [← hsz1, World.cell?_alloc_mark]
  have hf0 : ∀ o, (wa.alloc (.cells #[.int .i64 0, .int .i64 0, .int .i64 0] 23)).frozen? ⟨p + 1, o, none⟩ = false := fun o => by rw [← hsz1]; exact frozen_of_row _ _ _ _ _ (heap_alloc_new _ _)
  have hsz2 : (wa.alloc (.cells #[.int .i64 0, .int .i64 0, .int .i64 0] 23)).heap.size = p + 1 + 1 := by simp [hsz1]
  generalize wa.alloc (.cells #[.int .i64 0, .int .i64 0, .int .i64 0] 23) = wb at *
  have hB3 : Below (p + 1 + 1) wb (wb.alloc (.cells #[.int .i64 0, .slice none 0 0] 30)) := (Below.refl _ _).alloc (by omega) _
  have Y := RBx.made wb 0 (.slice none 0 0) 30
  rw [hsz2] at Y
  have hsz3 : (wb.alloc (.cells #[.int .i64 0, .slice none 0 0] 30)).heap.size = p + 1 + 1 + 1 := by simp [hsz2]
  generalize wb.alloc (.cells #[.int .i64 0, .slice none 0 0] 30) = wc at *
  refine (cF _).mono ?_
  rintro e wd ⟨rfl, b4⟩
  have hsz4 : p + 3 ≤ wd.heap.size := by have := b4.size; omega
  have B4 : Below p w wd := ((hB1.trans (hB2.mono (by omega))).trans (hB3.mono (by omega))).trans (b4.mono (by omega))
  have G := GBx.made wd (fK11 r.k) (fM11 r.m) (fB11 r.b) 23
  have bb : Below wd.heap.size wd (wd.alloc (.cells #[.int .i64 (fK11 r.k), .int .i64 (fM11 r.m), .int .i64 (fB11 r.b)] 23)) := (Below.refl _ _).alloc (Nat.le_refl _) _
  obtain ⟨g, hg⟩ : ∃ g, wd.heap.size = g := ⟨_, rfl⟩
  have hF : FB w p g r (.slice sa r.st.length sc) (.slice la r.le.length lc) (wd.alloc (.cells #[.int .i64 (fK11 r.k), .int .i64 (fM11 r.m), .int .i64 (fB11 r.b)] 23)) := by
    have hA : Below (p + 1) wa wd := (hB2.trans (hB3.mono (by omega))).trans (b4.mono (by omega))
    have hA' := hA.trans (bb.mono (by omega))
    have hBB : Below (p + 1 + 1) wb (wd.alloc (.cells #[.int .i64 (fK11 r.k), .int .i64 (fM11 r.m), .int .i64 (fB11 r.b)] 23)) := (hB3.trans (b4.mono (by omega))).trans (bb.mono (by omega))
    have q : ∀ o, (wd.alloc (.cells #[.int .i64 (fK11 r.k), .int .i64 (fM11 r.m), .int .i64 (fB11 r.b)] 23)).cell? ⟨p, o, none⟩ = _ := fun o => (hA'.cell (p := ⟨p, o, none⟩) (show p < p + 1 by omega)).trans (hc0 o)
    have q2 : ∀ o, (wd.alloc (.cells #[.int .i64 (fK11 r.k), .int .i64 (fM11 r.m), .int .i64 (fB11 r.b)] 23)).cell? ⟨p + 1, o, none⟩ = _ := fun o => (hBB.cell (p := ⟨p + 1, o, none⟩) (show p + 1 < p + 1 + 1 by omega)).trans (hz0 o)
    have q3 : ∀ o, (wd.alloc (.cells #[.int .i64 (fK11 r.k), .int .i64 (fM11 r.m), .int .i64 (fB11 r.b)] 23)).frozen? ⟨p + 1, o, none⟩ = false := fun o => (hBB.frozen (p := ⟨p + 1, o, none⟩) (show p + 1 < p + 1 + 1 by omega)).trans (hf0 o)
    exact ⟨q 0, q 1, q 2, q 3, q 4, q 5, q2 0, q2 1, q2 2, q3 0, q3 1, q3 2, (Y.below b4 Y.lt).below bb (by have := b4.size; have := Y.lt; omega), by rw [← hg]; exact G, by omega, B4.trans (bb.mono (by omega))⟩
  clear hL1 hB1 hc0 hsz1 hB2 hz0 hf0 hsz2 hB3 Y hsz3 b4 B4 G bb cF hsz4
  have e0 := hF.gb.c0
  have e1 := hF.gb.c1
  have e2 := hF.gb.c2
  have cS := fun W => rstripes_any (fK11 r.k) (fM11 r.m) (fB11 r.b) W
  rw [← hrn.1] at cS
  go_wp2_with (fail)
  clear e0 e1 e2
  generalize wd.alloc (.cells #[.int .i64 (fK11 r.k), .int .i64 (fM11 r.m), .int .i64 (fB11 r.b)] 23) = we at *
  clear hg
  refine (cS _).mono ?_
  rintro e w0 ⟨rfl, b0⟩
  replace hF := hF.below b0
  clear b0 cS
  obtain ⟨w1, hmk, hR, b1⟩ := HRow.make_run w0 r.n (by omega)
  obtain ⟨hb, hhb⟩ : ∃ hb, w0.heap.size = hb := ⟨_, rfl⟩
  rw [hhb] at hmk hR
  have hgb : g < hb := by have := hF.gb.lt; omega
  have hF1 := hF.below b1
  clear hF b1
  replace hp := Lib.hid hp
  have hc := hrn
  obtain ⟨n1, n2, n3, k1, k2, k3⟩ := hrn
  have hI0 : Hid (FB w p g r (.slice sa r.st.length sc) (.slice la r.le.length lc) w1 ∧ HRow w1 hb r.n (List.replicate r.n false)) := Lib.hid ⟨hF1, hR⟩
  have hst' := Lib.hid hst
  have hle' := Lib.hid hle
  have hok' := Lib.hid hok
  clear hF1 hR hst hle hok hhb
  replace n1 := Lib.hid n1
  replace k1 := Lib.hid k1
  clear hc
  have hal := Lib.hid (all_ok (n := r.n) (by omega) r.st)
  have hpkn : Hid (∀ c, 0 ≤ pk11 c (r.n : Int) ∧ pk11 c (r.n : Int) < (r.n : Int)) := Lib.hid fun c => pk_rng11 c _ (by omega)
  obtain ⟨n, hn⟩ : ∃ n, r.n = n := ⟨_, rfl⟩
  rw [hn] at n2 n3 hmk ⊢
  replace hn := Lib.hid hn
  go_wp2_with (fail)
  clear hmk
  go_loopw [7, 8] (fun m t wr => ∃ (k many : Nat) (H : List Bool), k ≤ r.st.length ∧ m = .int .i64 (many : Int) ∧ t = .int .i64 (k : Int) ∧ FB w p g r (.slice sa r.st.length sc) (.slice la r.le.length lc) wr ∧ HRow wr hb n H ∧ hasRun r.n (r.st.drop k) (H, many) = hasRun r.n r.st (has0 r.n) ∧ HasOk r.n (H, many)) (fun _ t _ => r.st.length - (RowKit.intOf t).toNat)
  case atStart => exact ⟨0, 0, _, by omega, rfl, rfl, hI0.out.1, by rw [hn.out]; exact (by have := hI0.out.2; rw [hn.out] at this; exact this), rfl, has0_ok _⟩
  case round =>
    obtain ⟨k, many, H, hk, rfl, rfl, F0, R0, hrun, hHok⟩ := hrel
    rename World => wr
    clear hI0
    have hHl : H.length = n := by rw [← hn.out]; exact hHok.l
    by_cases hlt : k < r.st.length ∧ many < 16
    · have y1 : (k : Int) < (r.st.length : Int) := by omega
      have y2 : (many : Int) < 16 := by omega
      have hkl : k < r.st.length := hlt.1
      have hkl2 := Lib.hid hlt.1
      have hsn2 := hok'.out.sn
      have hst0 := hst'.out.below (by rw [hp.out]; exact F0.b)
      obtain ⟨b1, o1, rfl, hc1⟩ : ∃ b1 o1, sa = some ⟨b1, o1, none⟩ ∧ wr.cell? ⟨b1, o1 + k, none⟩ = some (.int .i64 r.st[k]) := by
        rcases hst0 with ⟨_, h0⟩ | ⟨b', off', cap', h1, h2, h3⟩
        · have : r.st.length = 0 := by have := congrArg List.length h0; simpa using this
          omega
        · simp only [Value.slice.injEq] at h1
          refine ⟨b', off', h1.1, ?_⟩
          rw [h3 k (by rw [List.length_map]; exact hkl)]
          rw [List.getD_eq_getElem?_getD, List.getElem?_map, List.getElem?_eq_getElem hkl]; rfl
      have hcr := hok'.out.st _ (List.getElem_mem hkl)
      have hp1 := hpkn.out r.st[k]
      have hrun2 : hasRun r.n (r.st.drop (k + 1)) (hasStep r.n (H, many) r.st[k]) = hasRun r.n r.st (has0 r.n) := by
        rw [← hrun, List.drop_eq_getElem_cons hkl]
        show _ = hasRun r.n (r.st[k] :: r.st.drop (k + 1)) (H, many)
        unfold hasRun
        rw [if_pos hlt.2]
        cases h : r.st.drop (k + 1) <;> rfl
      have hok2 := step_ok hHok (by rw [hn.out]; omega) hlt.2 r.st[k]
      unfold hasStep at hrun2 hok2
      rw [hn.out] at hp1 hrun2 hok2
      obtain ⟨s, hs⟩ := Int.eq_ofNat_of_zero_le hp1.1
      have cP := fun W => pick11_any11 r.st[k] (n : Int) W hcr.1 hcr.2 (by omega) (by omega)
      rw [hs] at hp1 hrun2 hok2 cP
      simp only [Int.toNat_natCast] at hrun2 hok2
      have hsn : s < n := by omega
      have ch := R0.cell (i := s) (by omega)
      have cf := R0.frozen s
      have hR2 := R0.set s
      replace hrun2 := Lib.hid hrun2
      replace hok2 := Lib.hid hok2
      replace hrun := Lib.hid hrun
      replace hs := Lib.hid hs
      have e4 := F0.a4
      have hF2 := Lib.hid (F0.set (c := hb) hgb s (.bool true))
      replace hR2 := Lib.hid hR2
      clear hcr hst0 hHok hp1 hlt
      cases hv : H.getD s false with
      | true =>
        rw [hv] at hrun2 hok2 ch
        simp only [if_true] at hrun2 hok2
        clear hv
        go_wp2_with (fail)
        refine (cP _).mono ?_
        rintro e w' ⟨rfl, rfl⟩
        go_wp2_with (fail)
        go_roundw
        case rel => exact ⟨k + 1, many, H.set s true, by have := hkl2.out; omega, rfl, by go_num, hF2.out, hR2.out, by rw [hn.out]; exact hrun2.out, by rw [hn.out]; exact hok2.out⟩
        case measure => have := hkl2.out; simp [RowKit.intOf]; omega
      | false =>
        rw [hv] at hrun2 hok2 ch
        simp only [Bool.false_eq_true, if_false] at hrun2 hok2
        clear hv
        go_wp2_with (fail)
        refine (cP _).mono ?_
        rintro e w' ⟨rfl, rfl⟩
        go_wp2_with (fail)
        go_roundw
        case rel => exact ⟨k + 1, many + 1, H.set s true, by have := hkl2.out; omega, by go_num, by go_num, hF2.out, hR2.out, by rw [hn.out]; exact hrun2.out, by rw [hn.out]; exact hok2.out⟩
        case measure => have := hkl2.out; simp [RowKit.intOf]; omega
    · have hcase : (¬ (k : Int) < (r.st.length : Int)) ∨ ((k : Int) < (r.st.length : Int) ∧ ¬ (many : Int) < 16) := by omega
      have hend : hasRun r.n r.st (has0 r.n) = (H, many) := by
        rw [← hrun]
        rcases Nat.lt_or_ge k r.st.length with h1 | h1
        · rw [List.drop_eq_getElem_cons h1, hasRun, if_neg (by show ¬ many < 16; omega)]
        · rw [List.drop_of_length_le h1, hasRun]
      have hfin : hasAll r.n r.st = if many = 0 then H.set 0 true else H := by unfold hasAll; rw [hend]
      have ch := R0.cell (i := 0) (by omega)
      have cf := R0.frozen 0
      have hR2 := R0.set 0
      have hF2 := F0.set (c := hb) hgb 0 (.bool true)
      have hW : Hid (∃ wx, wx = (if many = 0 then wr.setCell ⟨hb, 0, none⟩ (.bool true) else wr) ∧ FB w p g r (.slice sa r.st.length sc) (.slice la r.le.length lc) wx ∧ HRow wx hb n (hasAll r.n r.st)) := Lib.hid (by
        rw [hfin]
        by_cases h0 : many = 0
        · rw [if_pos h0, if_pos h0]; exact ⟨_, rfl, hF2, hR2⟩
        · rw [if_neg h0, if_neg h0]; exact ⟨_, rfl, F0, R0⟩)
      have e4 := F0.a4
      clear hfin hend hrun hHok hlt hR2 hF2 F0 R0
      rcases hcase with y1 | ⟨y1, y2⟩
      all_goals
        go_upto_if 52 with (fail)
        go_cut [] from 52 to 54 (fun wx => FB w p g r (.slice sa r.st.length sc) (.slice la r.le.length lc) wx ∧ HRow wx hb n (hasAll r.n r.st))
        case first =>
          obtain ⟨wx, hwx, hWF, hWR⟩ := hW.out
          by_cases h0 : many = 0
          · rw [if_pos h0] at hwx
            have h1 : ((many : Int) == 0) = true := by rw [h0]; rfl
            replace hwx := Lib.hid hwx
            first
              | (exfalso; omega)
              | (replace h0 := Lib.hid h0
                 go_wp2_with (fail)
                 go_meet
                 rw [← hwx.out]
                 exact ⟨hWF, hWR⟩)
          · rw [if_neg h0] at hwx
            have h1 : ((many : Int) == 0) = false := by rw [beq_eq_false_iff_ne]; omega
            replace hwx := Lib.hid hwx
            replace h0 := Lib.hid h0
            go_wp2_with (fail)
            go_meet
            rw [← hwx.out]
            exact ⟨hWF, hWR⟩
        case rest =>
        obtain ⟨F0, R0⟩ := hcut
        rename World => wy
        have hq := pk_rng11 r.q 1099511627776 (by decide)
        have hqo := hok'.out.q
        have hH := hal.out
        have hSt : Hid (fitS r = strTo (hasAll r.n r.st) r.kk r.le r.n) := Lib.hid rfl
        generalize hasAll r.n r.st = HH at *
        rw [hn.out] at hH hSt
        have hHl2 := hH.1
        have hQ : Hid (fitQ r = 1 + pk11 r.q 1099511627776) := Lib.hid rfl
        have cP := fun W => pick11_any11 r.q 1099511627776 W hqo.1 hqo.2 (by decide) (by decide)
        have hcnt := Lib.hid hH.2
        clear hqo hH
        generalize pk11 r.q 1099511627776 = pq at *
        clear ch cf hW hal e4
        have e3 := F0.a3
        go_wp2_with (fail)
        refine (cP _).mono ?_
        rintro e w' ⟨rfl, rfl⟩
        clear cP
        obtain ⟨x, hx⟩ : ∃ x, wy.heap.size = x := ⟨_, rfl⟩
        have hbx : hb < x := by have := R0.lt; omega
        have X := RBx.made wy (1 + pq) (.slice none 0 0) 30
        have bb : Below wy.heap.size wy (wy.alloc (.cells #[.int .i64 (1 + pq), .slice none 0 0] 30)) := (Below.refl _ _).alloc (Nat.le_refl _) _
        have F1 := F0.below bb
        have R1 := R0.heap (bb.block hb (by omega))
        rw [hx] at X
        clear F0 R0 bb e3
        go_wp2_with (fail)
        replace hx := Lib.hid hx
        generalize wy.alloc (.cells #[.int .i64 (1 + pq), .slice none 0 0] 30) = wz at *
        have hI1 : Hid (FB w p g r (.slice sa r.st.length sc) (.slice la r.le.length lc) wz ∧ HRow wz hb n HH ∧ RBx wz x (1 + pq) (.slice none 0 0)) := Lib.hid ⟨F1, R1, X⟩
        clear F1 R1 X
        go_loopw [11, 12] (fun kx t wr => ∃ (s : Nat) (v : Value) (l : List St), s ≤ n ∧ t = .int .i64 (s : Int) ∧ kx = .int .i64 ((l.length * r.kk : Nat) : Int) ∧ FB w p g r (.slice sa r.st.length sc) (.slice la r.le.length lc) wr ∧ HRow wr hb n HH ∧ RBx wr x (1 + pq) v ∧ SFam wr (x + 1) v l ∧ l.map pr = strTo HH r.kk r.le s) (fun _ t _ => n - (RowKit.intOf t).toNat)
        case atStart => exact ⟨0, _, [], by omega, rfl, by simp, hI1.out.1, hI1.out.2.1, hI1.out.2.2, SFam.nil _ _, rfl⟩
        case round =>
          obtain ⟨s, v, l, hs, rfl, rfl, F0, R0, O0, f0, hl⟩ := hrel
          rename World => wr
          clear hI1
          have hll : l.length ≤ 16 := by
            have h1 := congrArg List.length hl
            rw [List.length_map, strTo_len _ _ _ _ (by omega)] at h1
            have h2 : (HH.take s).count true ≤ HH.count true := (List.take_sublist s HH).count_le true
            have := hcnt.out.2
            omega
          obtain ⟨va, vc, ev⟩ := f0.o.isSlice
          subst ev
          have hmk : l.length * r.kk ≤ 64 := by have := Nat.mul_le_mul hll k3; omega
          by_cases hlt : s < n
          · have y3 : (s : Int) < (n : Int) := by omega
            have ch := R0.cell (i := s) (by omega)
            cases hv : HH.getD s false with
            | false =>
              have hl2 : Hid (l.map pr = strTo HH r.kk r.le (s + 1)) := Lib.hid (by rw [hl, strTo, hv]; simp)
              rw [hv] at ch
              clear hv hl
              go_wp2_with (fail)
              go_roundw
              case rel => exact ⟨s + 1, _, l, by omega, by go_num, rfl, F0, R0, O0, f0, hl2.out⟩
              case measure => simp [RowKit.intOf]; omega
            | true =>
              have hl2 : Hid (∀ u, (l ++ [(⟨(s : Int), dataTo r.le (l.length * r.kk) r.kk, u⟩ : St)]).map pr = strTo HH r.kk r.le (s + 1)) := Lib.hid fun u => by
                rw [strTo, hv, if_pos rfl, ← hl, List.map_append, List.length_map]; rfl
              rw [hv] at ch
              replace hl := Lib.hid hl
              clear hv
              generalize hK0 : l.length * r.kk = k0 at *
              replace hK0 := Lib.hid hK0
              obtain ⟨y, hy⟩ : ∃ y, wr.heap.size = y := ⟨_, rfl⟩
              have hxy : x < y := by have := O0.lt; omega
              have S5 := RBx.made wr (s : Int) (.slice none 0 0) 76
              have bb : Below wr.heap.size wr (wr.alloc (.cells #[.int .i64 (s : Int), .slice none 0 0] 76)) := (Below.refl _ _).alloc (Nat.le_refl _) _
              rw [hy] at S5
              have hF0 : Hid (SFam wr (x + 1) (.slice va l.length vc) l) := Lib.hid f0
              have hI2 : Hid (FB w p g r (.slice sa r.st.length sc) (.slice la r.le.length lc) (wr.alloc (.cells #[.int .i64 (s : Int), .slice none 0 0] 76)) ∧ HRow (wr.alloc (.cells #[.int .i64 (s : Int), .slice none 0 0] 76)) hb n HH ∧ RBx (wr.alloc (.cells #[.int .i64 (s : Int), .slice none 0 0] 76)) x (1 + pq) (.slice va l.length vc) ∧ SFam (wr.alloc (.cells #[.int .i64 (s : Int), .slice none 0 0] 76)) (x + 1) (.slice va l.length vc) l ∧ RBx (wr.alloc (.cells #[.int .i64 (s : Int), .slice none 0 0] 76)) y (s : Int) (.slice none 0 0)) :=
                Lib.hid ⟨F0.below bb, R0.heap (bb.block hb (by omega)), O0.below bb O0.lt, f0.after bb, S5⟩
              clear F0 R0 O0 f0 S5 bb
              go_wp2_with (fail)
              replace hy := Lib.hid hy
              generalize wr.alloc (.cells #[.int .i64 (s : Int), .slice none 0 0] 76) = w2 at *
              go_loopw [11, 14] (fun kx t wr => ∃ (j : Nat) (u : Value), j ≤ r.kk ∧ t = .int .i64 (j : Int) ∧ kx = .int .i64 ((k0 + j : Nat) : Int) ∧ FB w p g r (.slice sa r.st.length sc) (.slice la r.le.length lc) wr ∧ HRow wr hb n HH ∧ RBx wr x (1 + pq) (.slice va l.length vc) ∧ SFam wr (x + 1) (.slice va l.length vc) l ∧ RBx wr y (s : Int) u ∧ Own wr (y + 1) 9 u ((dataTo r.le k0 j).map .string)) (fun _ t _ => r.kk - (RowKit.intOf t).toNat)
              case atStart => exact ⟨0, _, by omega, rfl, by simp, hI2.out.1, hI2.out.2.1, hI2.out.2.2.1, hI2.out.2.2.2.1, hI2.out.2.2.2.2, Own.nil _ _ _⟩
              case round =>
                obtain ⟨j, u, hj, rfl, rfl, F0, R0, O0, f0, s0, d0⟩ := hrel
                rename World => wr
                clear hI2
                obtain ⟨ua, uc, ev⟩ := d0.isSlice
                rw [List.length_map, dataTo_len] at ev
                subst ev
                have e0 := F0.gb.c0
                rw [← k1.out] at e0
                by_cases hjm : j < r.kk
                · have y4 : (j : Int) < (r.kk : Int) := by omega
                  have hLr := letter_rng hok'.out (k0 + j) (by omega)
                  have cB := fun W => block_any11 (letter r.le (k0 + j)) W hLr.1 hLr.2
                  have hds := Lib.hid (dataTo_succ r.le k0 j)
                  have e5 := F0.a5
                  have J0 : JB w p g r (.slice sa r.st.length sc) (.slice la r.le.length lc) hb n HH x (1 + pq) (.slice va l.length vc) l y (s : Int) (.slice ua j uc) (dataTo r.le k0 j) wr := ⟨F0, R0, O0, f0, s0, d0⟩
                  by_cases hL0 : r.le.length = 0
                  · have hle1 : letter r.le (k0 + j) = (k0 : Int) + (j : Int) := by unfold letter; rw [if_pos hL0]; simp
                    have y6 : ¬ ((r.le.length : Int) > 0) := by omega
                    have y7 : decide (0 < r.le.length) = false := by rw [decide_eq_false_iff_not]; omega
                    rw [hle1] at cB
                    clear hLr
                    replace hle1 := Lib.hid hle1
                    replace hL0 := Lib.hid hL0
                    have J1 := J0.drewN 1
                    rw [show wr.drewN 1 = wr.drew from rfl] at J1
                    have hlv := hle1
                    obtain ⟨i0, hi, hz0, hz1, hz2⟩ := info_parts Tryz.infoT
                    have hgl := J1.F.gb.lt
                    have hrl := J1.R.lt
                    have hol := J1.O.lt
                    have hsl := J1.s.lt
                    have cs1 := J1.s.c1
                    clear F0 R0 O0 f0 s0 d0 J0
                    go_wp2_with (fail)
                    go_region_law (first
                      | (refine step_append_run11 hap _ _ rfl rfl rfl (by simp [Act.eval, Act.put]) (by simp [Act.eval, Act.put]) ?_)
                      | (go_simp; go_at_call 34
                         refine (cB _).mono ?_
                         rintro e w6 ⟨rfl, b6⟩
                         have dm := J1.d.after b6
                         obtain ⟨v', w7, hap, d7, b7, k7, v7⟩ := dm.pushA (P := Tryz.prog) (T := 54) Tryz.underlying54 hi hz0 hz1 hz2 rfl (.string (blockS11 ((k0 : Int) + (j : Int)))) rfl (by have := b6.size; omega) (by simp [dataTo_len]; omega) (by simp [dataTo_len]; omega)
                         obtain ⟨ua', uc', ev⟩ := d7.isSlice
                         rw [List.length_append, List.length_map, dataTo_len, List.length_singleton] at ev
                         subst ev
                         have sm := J1.s.below b6 hsl
                         have csm := sm.c1
                         have csa := cell_alloc_l (.cells #[.string (blockS11 ((k0 : Int) + (j : Int)))] 9) csm
                         have s7 : RBx w7 y (s : Int) (.slice ua j uc) := sm.heap (k7 y sm.lt (fun e => by have := (dm.o.lt y e).1; omega)) b7.size
                         have cs7 := s7.c1
                         have ds7 := s7.f1
                         have eh : Hid (∀ i, i < wr.drew.heap.size → i < y → (w7.setCell ⟨y, 1, none⟩ (.slice ua' (j + 1) uc')).heap[i]? = wr.drew.heap[i]?) := Lib.hid fun i h1 h2 => by
                           rw [Below.heap_setCell _ _ _ _ (by show i ≠ y; omega), ← b6.block i h1]
                           exact k7 i (by have := b6.size; omega) (fun e => by have := (dm.o.lt i e).1; omega)
                         have hsz : Hid (wr.drew.heap.size ≤ (w7.setCell ⟨y, 1, none⟩ (.slice ua' (j + 1) uc')).heap.size) := Lib.hid (by have := b7.size; have := b6.size; rw [World.size_setCell]; omega)
                         have hbb : Hid (Below p w (w7.setCell ⟨y, 1, none⟩ (.slice ua' (j + 1) uc'))) := Lib.hid (((J1.F.b.trans (b6.mono (by have := J1.F.hg; omega))).trans (b7.mono (by have := J1.F.hg; omega))).setCell (p := ⟨y, 1, none⟩) (by have := J1.F.hg; show p ≤ y; omega) _)
                         replace s7 := Lib.hid s7
                         replace d7 := Lib.hid d7
                         replace sm := Lib.hid sm
                         clear dm v7 b6))
                    all_goals
                      go_wp2_with (fail)
                      go_roundw
                      case rel =>
                        refine ⟨j + 1, .slice ua' (j + 1) uc', by omega, by go_num, by go_num, ?_, ?_, ?_, ?_, s7.out.set1 _, ?_⟩
                        · exact J1.F.to (fun i h1 h2 => eh.out i h1 (by omega)) hsz.out hbb.out
                        · exact J1.R.heap (eh.out _ hrl (by omega))
                        · exact J1.O.heap (eh.out _ hol (by omega)) hsz.out
                        · exact J1.f.heapO fun u hu i hi => eh.out i (J1.f.old u hu i hi).2 (by have := (hF0.out.old u hu i hi).2; have := hy.out; omega)
                        · have := d7.out.setOther (a := ⟨y, 1, none⟩) (fun e => by have := (d7.out.o.lt y e).1; omega) (.slice ua' (j + 1) uc')
                          rw [hds.out, List.map_append, hlv.out]
                          exact this
                      case measure => simp [RowKit.intOf]; omega
                  · have hc0 : (k0 + j) % r.le.length < r.le.length := Nat.mod_lt _ (by omega)
                    have hle1 : letter r.le (k0 + j) = r.le.getD ((k0 + j) % r.le.length) 0 := by unfold letter; rw [if_neg hL0]
                    have y6 : (r.le.length : Int) > 0 := by omega
                    have y7 : decide (0 < r.le.length) = true := by rw [decide_eq_true_iff]; omega
                    have y8 : ((k0 : Int) + (j : Int)) % (r.le.length : Int) = (((k0 + j) % r.le.length : Nat) : Int) := by simp
                    have hln := hok'.out.ln
                    obtain ⟨C, hC⟩ : ∃ C, (k0 + j) % r.le.length = C := ⟨_, rfl⟩
                    rw [hC] at hc0 hle1 y8
                    replace hC := Lib.hid hC
                    obtain ⟨lv, hlvv⟩ : ∃ lv, r.le.getD C 0 = lv := ⟨_, rfl⟩
                    have hr2 := hle'.out.below (by rw [hp.out]; exact F0.b)
                    obtain ⟨b2, o2, rfl, hc2⟩ : ∃ b2 o2, la = some ⟨b2, o2, none⟩ ∧ wr.cell? ⟨b2, o2 + C, none⟩ = some (.int .i64 lv) := by
                      rcases hr2 with ⟨_, h0⟩ | ⟨b', off', cap', h1, h2, h3⟩
                      · exact absurd (by have := congrArg List.length h0; simpa using this) hL0
                      · simp only [Value.slice.injEq] at h1
                        refine ⟨b', off', h1.1, ?_⟩
                        rw [h3 C (by rw [List.length_map]; exact hc0), ← hlvv]
                        rw [List.getD_eq_getElem?_getD, List.getElem?_map, List.getElem?_eq_getElem hc0, List.getD_eq_getElem?_getD, List.getElem?_eq_getElem hc0]; rfl
                    rw [hlvv] at hle1
                    rw [hle1] at cB
                    have y9 : ¬ r.le.length = 0 := hL0
                    clear hLr hr2 hlvv
                    replace hle1 := Lib.hid hle1
                    clear F0 R0 O0 f0 s0 d0 hL0
                    go_wp2_with (fail)
                    go_quiet (fail)
                    replace J0 := J0.drewN nq
                    generalize wr.drewN nq = w3 at *
                    have J1 := J0.drewN 1
                    rw [show w3.drewN 1 = w3.drew from rfl] at J1
                    have hlv := hle1
                    obtain ⟨i0, hi, hz0, hz1, hz2⟩ := info_parts Tryz.infoT
                    have hgl := J1.F.gb.lt
                    have hrl := J1.R.lt
                    have hol := J1.O.lt
                    have hsl := J1.s.lt
                    have cs1 := J1.s.c1
                    clear J0
                    go_wp2_with (fail)
                    go_region_law (first
                      | (refine step_append_run11 hap _ _ rfl rfl rfl (by simp [Act.eval, Act.put]) (by simp [Act.eval, Act.put]) ?_)
                      | (go_simp; go_at_call 34
                         refine (cB _).mono ?_
                         rintro e w6 ⟨rfl, b6⟩
                         have dm := J1.d.after b6
                         obtain ⟨v', w7, hap, d7, b7, k7, v7⟩ := dm.pushA (P := Tryz.prog) (T := 54) Tryz.underlying54 hi hz0 hz1 hz2 rfl (.string (blockS11 lv)) rfl (by have := b6.size; omega) (by simp [dataTo_len]; omega) (by simp [dataTo_len]; omega)
                         obtain ⟨ua', uc', ev⟩ := d7.isSlice
                         rw [List.length_append, List.length_map, dataTo_len, List.length_singleton] at ev
                         subst ev
                         have sm := J1.s.below b6 hsl
                         have csm := sm.c1
                         have csa := cell_alloc_l (.cells #[.string (blockS11 lv)] 9) csm
                         have s7 : RBx w7 y (s : Int) (.slice ua j uc) := sm.heap (k7 y sm.lt (fun e => by have := (dm.o.lt y e).1; omega)) b7.size
                         have cs7 := s7.c1
                         have ds7 := s7.f1
                         have eh : Hid (∀ i, i < w3.drew.heap.size → i < y → (w7.setCell ⟨y, 1, none⟩ (.slice ua' (j + 1) uc')).heap[i]? = w3.drew.heap[i]?) := Lib.hid fun i h1 h2 => by
                           rw [Below.heap_setCell _ _ _ _ (by show i ≠ y; omega), ← b6.block i h1]
                           exact k7 i (by have := b6.size; omega) (fun e => by have := (dm.o.lt i e).1; omega)
                         have hsz : Hid (w3.drew.heap.size ≤ (w7.setCell ⟨y, 1, none⟩ (.slice ua' (j + 1) uc')).heap.size) := Lib.hid (by have := b7.size; have := b6.size; rw [World.size_setCell]; omega)
                         have hbb : Hid (Below p w (w7.setCell ⟨y, 1, none⟩ (.slice ua' (j + 1) uc'))) := Lib.hid (((J1.F.b.trans (b6.mono (by have := J1.F.hg; omega))).trans (b7.mono (by have := J1.F.hg; omega))).setCell (p := ⟨y, 1, none⟩) (by have := J1.F.hg; show p ≤ y; omega) _)
                         replace s7 := Lib.hid s7
                         replace d7 := Lib.hid d7
                         replace sm := Lib.hid sm
                         clear dm v7 b6))
                    all_goals
                      go_wp2_with (fail)
                      go_roundw
                      case rel =>
                        refine ⟨j + 1, .slice ua' (j + 1) uc', by omega, by go_num, by go_num, ?_, ?_, ?_, ?_, s7.out.set1 _, ?_⟩
                        · exact J1.F.to (fun i h1 h2 => eh.out i h1 (by omega)) hsz.out hbb.out
                        · exact J1.R.heap (eh.out _ hrl (by omega))
                        · exact J1.O.heap (eh.out _ hol (by omega)) hsz.out
                        · exact J1.f.heapO fun u hu i hi => eh.out i (J1.f.old u hu i hi).2 (by have := (hF0.out.old u hu i hi).2; have := hy.out; omega)
                        · have := d7.out.setOther (a := ⟨y, 1, none⟩) (fun e => by have := (d7.out.o.lt y e).1; omega) (.slice ua' (j + 1) uc')
                          rw [hds.out, List.map_append, hlv.out]
                          exact this
                      case measure => simp [RowKit.intOf]; omega
                · obtain rfl : j = r.kk := by omega
                  have y4 : ¬ ((r.kk : Int) < (r.kk : Int)) := by omega
                  obtain ⟨i2, hi, hz, hs2, hb2⟩ : ∃ i, Tryz.prog.info? 76 = some i ∧ i.zero = some (.agg #[.int .i64 0, .slice none 0 0]) ∧ i.size = 2 ∧ i.bytes = 32 := info_parts (by kernel_rfl)
                  obtain ⟨v', w7, hap, o7, b7, k7, v7⟩ := f0.o.push (P := Tryz.prog) (S := 28) Tryz.underlying28 hi hz hs2 hb2 rfl (⟨(s : Int), dataTo r.le k0 r.kk, .slice ua r.kk uc⟩ : St) #[.int .i64 (s : Int), .slice ua r.kk uc] (by show [Value.int .i64 (s : Int), .slice ua r.kk uc] = [.int .i64 (s : Int), cell1 (.slice ua r.kk uc)]; rw [cell1_slice]) (by have := O0.lt; omega) (by omega) (by omega)
                  have hF7 := Lib.hid (hF0.out.push (C := y + 1) (by have := hy.out; omega) d0 f0 (by have := hy.out; have := s0.lt; omega) o7 k7 v7 (by omega))
                  obtain ⟨va', vc', ev⟩ := o7.isSlice
                  rw [List.length_append, List.length_singleton] at ev
                  subst ev
                  have X7 : RBx w7 x (1 + pq) (.slice va l.length vc) := O0.heap (k7 x O0.lt (fun e => by have := (f0.old _ (.inl rfl) x e).1; omega)) b7.size
                  have c0 := O0.c1
                  have c1 := s0.c0
                  have c2 := s0.c1
                  have c7 := X7.c1
                  have d7 := X7.f1
                  have eh : Hid (∀ i, i < wr.heap.size → i < x → (w7.setCell ⟨x, 1, none⟩ (.slice va' (l.length + 1) vc')).heap[i]? = wr.heap[i]?) := Lib.hid fun i h1 h2 => by
                    rw [Below.heap_setCell _ _ _ _ (by show i ≠ x; omega)]
                    exact k7 i h1 (fun e => by have := (f0.old _ (.inl rfl) i e).1; omega)
                  have hsz : Hid (wr.heap.size ≤ (w7.setCell ⟨x, 1, none⟩ (.slice va' (l.length + 1) vc')).heap.size) := Lib.hid (by simpa using b7.size)
                  have hbb : Hid (Below p w (w7.setCell ⟨x, 1, none⟩ (.slice va' (l.length + 1) vc'))) := Lib.hid ((F0.b.trans (b7.mono (by have := F0.hg; omega))).setCell (p := ⟨x, 1, none⟩) (by have := F0.hg; show p ≤ x; omega) _)
                  have FF := Lib.hid F0
                  replace hF7 : Hid (SFam (w7.setCell ⟨x, 1, none⟩ (.slice va' (l.length + 1) vc')) (x + 1) (.slice va' (l.length + 1) vc') (l ++ [(⟨(s : Int), dataTo r.le k0 r.kk, .slice ua r.kk uc⟩ : St)])) := Lib.hid (hF7.out.heap fun i h1 h2 => Below.heap_setCell _ _ _ _ (by show i ≠ x; omega))
                  replace X7 := Lib.hid X7
                  have hRl := R0.lt
                  clear hi hz hs2 hb2 i2 o7 b7 k7 v7 d0 f0 O0 s0 F0
                  go_wp2_with (at_builtin; refine wpList_append_run hap _ _ rfl rfl rfl rfl rfl ?_)
                  go_roundw
                  case rel =>
                    refine ⟨s + 1, .slice va' (l.length + 1) vc', l ++ [(⟨(s : Int), dataTo r.le k0 r.kk, .slice ua r.kk uc⟩ : St)], by omega, by go_num, ?_, ?_, ?_, X7.out.set1 _, hF7.out, hl2.out _⟩
                    · have h1 : (l ++ [(⟨(s : Int), dataTo r.le k0 r.kk, .slice ua r.kk uc⟩ : St)]).length * r.kk = k0 + r.kk := by rw [List.length_append, List.length_singleton, Nat.succ_mul, hK0.out]
                      rw [h1]; go_num
                    · exact FF.out.to (fun i h1 h2 => eh.out i h1 (by omega)) hsz.out hbb.out
                    · exact R0.heap (eh.out _ hRl (by omega))
                  case measure => simp [RowKit.intOf]; omega
          · obtain rfl : s = n := by omega
            have y3 : ¬ ((s : Int) < (s : Int)) := by omega
            have e0 := F0.gb.c0
            have e1 := F0.gb.c1
            have e2 := F0.gb.c2
            have e3 := O0.c0
            have e4 := O0.c1
            have z0 := F0.z0
            have z1 := F0.z1
            have z2 := F0.z2
            have z3 := F0.f0
            have z4 := F0.f1
            have z5 := F0.f2
            have z6 := F0.y.c0
            have z7 := F0.y.c1
            have z8 := F0.y.f0
            have z9 := F0.y.f1
            have hgp := F0.hg
            have q1 : ¬ x = p + 1 := by omega
            have q2 : ¬ x = p + 1 + 1 := by omega
            have q3 : ¬ g = p + 1 := by omega
            have q4 : ¬ g = p + 1 + 1 := by omega
            have q5 : ¬ p + 1 = x := by omega
            have q6 : ¬ p + 1 + 1 = x := by omega
            have q7 : ¬ p + 1 = g := by omega
            have q8 : ¬ p + 1 + 1 = g := by omega
            go_wp2_with (fail)
            go_region
            go_wp2_with (fail)
            have hxl := O0.lt
            have G1 := geo_put F0.z0 F0.z1 F0.z2 (by omega) (fK11 r.k) (fM11 r.m) (fB11 r.b)
            have Y1 := (F0.y.heap (geo_heap wr (p + 1) (.int .i64 (fK11 r.k)) (.int .i64 (fM11 r.m)) (.int .i64 (fB11 r.b)) (k := p + 1 + 1) (by omega)) (by simp)).put (1 + pq) (.slice va l.length vc)
            have G2 := G1.heap (put_heap _ (p + 1 + 1) (1 + pq) (.slice va l.length vc) (k := p + 1) (by omega)) (by simp)
            refine bodyPost_ret (res_fit (G2.heap rfl (Nat.le_refl _)) (Y1.heap rfl (Nat.le_refl _)) rfl rfl) rfl ?_
            refine ⟨.slice va l.length vc, l, by rw [hQ.out], ?_, by rw [hSt.out]; exact hl, ?_⟩
            · rw [hp.out]
              refine (f0.heap fun i h1 h2 => ?_).mono (by omega)
              show (World.setCell (World.setCell _ _ _) _ _).heap[i]? = _
              rw [put_heap _ _ _ _ (by omega), geo_heap _ _ _ _ _ (by omega)]
            · rw [hp.out]
              have hbW := put_below (b := p + 1 + 1) (((F0.b.setCell (p := ⟨p + 1, 0, none⟩) (by show p ≤ p + 1; omega) (.int .i64 (fK11 r.k))).setCell (p := ⟨p + 1, 1, none⟩) (by show p ≤ p + 1; omega) (.int .i64 (fM11 r.m))).setCell (p := ⟨p + 1, 2, none⟩) (by show p ≤ p + 1; omega) (.int .i64 (fB11 r.b))) (by omega) (1 + pq) (.slice va l.length vc)
              exact hbW.drew
end Go.Proofs.YtfadglcpapiklaaGreatDoor
end
section
namespace Go.Proofs.YtfadglcpapiklaaGreatDoor
open Go.RowKit
set_option linter.unusedVariables false
set_option linter.unusedSimpArgs false

open Rc
def nB : List St → ByteArray
  | [] => ⟨#[]⟩
  | s :: l => numL s.n 1 ++ nB l
theorem fold_nB : ∀ (l : List St) (a : ByteArray), l.foldl (fun a s => a ++ numL s.n 1) a = a ++ nB l
  | [], a => by rw [nB, Rm.app_nil]; rfl
  | s :: l, a => by rw [List.foldl_cons, fold_nB l, nB, Rm.app_assoc]
theorem lay_split (q : Int) (l : List St) (t : ByteArray) : layS q l ++ t = markS ++ (numL q 6 ++ (numL (l.length : Int) 1 ++ (nB l ++ (numL ((sumT (allT l) : Nat) : Int) 4 ++ t)))) := by
  unfold layS headTo
  rw [List.take_length, fold_nB, show (⟨#[74, 82, 78, 49]⟩ : ByteArray) = markS from rfl]
  simp only [Rm.app_assoc]
theorem rdTo_front (p : RS11) : ∀ k, rdTo p (k + 1) = rdTo (rNumR p 1) k
  | 0 => rfl
  | k + 1 => by
    show rNumR (rdTo p (k + 1)) 1 = rNumR (rdTo (rNumR p 1) k) 1
    rw [rdTo_front p k]
theorem read_nB : ∀ (l : List St) (t : ByteArray), (∀ s ∈ l, 0 ≤ s.n ∧ s.n < 256) → rdTo ⟨nB l ++ t, false⟩ l.length = ⟨t, false⟩ ∧ rdS11 ⟨nB l ++ t, false⟩ l.length = l.map fun s => bare s.n
  | [], t, _ => by
    refine ⟨?_, rfl⟩
    show (⟨nB [] ++ t, false⟩ : RS11) = _
    rw [nB, Rm.nil_app]
  | s :: l, t, h => by
    have hs := h s (List.mem_cons_self ..)
    obtain ⟨n1, n2⟩ := num_l s.n 1 (nB l ++ t) (by decide) (by decide) hs.1 (by simpa using hs.2)
    have n1 : ((rNum ⟨numL s.n 1 ++ (nB l ++ t), false⟩ 1 : Nat) : Int) = s.n := n1
    have n2 : rNumR ⟨numL s.n 1 ++ (nB l ++ t), false⟩ 1 = ⟨nB l ++ t, false⟩ := n2
    obtain ⟨i1, i2⟩ := read_nB l t fun x hx => h x (List.mem_cons_of_mem _ hx)
    rw [nB, Rm.app_assoc]
    refine ⟨by rw [List.length_cons, rdTo_front, n2]; exact i1, ?_⟩
    rw [List.length_cons, List.map_cons, ← i2]
    unfold rdS11
    rw [List.range_succ_eq_map, List.map_cons, List.map_map]
    congr 1
    · show bare ((rNum ⟨numL s.n 1 ++ (nB l ++ t), false⟩ 1 : Nat) : Int) = _
      rw [n1]
    · apply List.map_congr_left
      intro i _
      show bare ((rNum (rdTo ⟨numL s.n 1 ++ (nB l ++ t), false⟩ (i + 1)) 1 : Nat) : Int) = _
      rw [rdTo_front, n2]
theorem incB_rng {top : Int} : ∀ (l : List St) (last : Int), incB top last l = true → ∀ s ∈ l, last < s.n ∧ s.n < top
  | [], _, _, s, hs => by cases hs
  | a :: l, last, h, s, hs => by
    rw [incB] at h
    simp only [Bool.and_eq_true, Bool.not_eq_true', decide_eq_false_iff_not] at h
    rcases List.mem_cons.1 hs with rfl | hs
    · omega
    · have := incB_rng l a.n h.2.2 s hs; omega
/-- What a right record's head says. -/
structure Laid (K M B q : Int) (l : List St) (h : ByteArray) : Prop where
  t : headB K M B h = true
  q : hdQ h = q
  s : hdS h = l.map fun s => bare s.n
  c : hdC h = ((sumT (allT l) : Nat) : Int)
theorem ord_facts {K M B q : Int} {l : List St} (h : ordB K M B q l = true) : (1 ≤ K ∧ K ≤ 4) ∧ (1 ≤ q ∧ q ≤ 1099511627776) ∧ (1 ≤ l.length ∧ l.length ≤ 16) ∧ (∀ s ∈ l, 0 ≤ s.n ∧ s.n < 256) := by
  unfold ordB at h
  simp only [Bool.and_eq_true, decide_eq_true_eq] at h
  obtain ⟨hg, hq, hn, hi⟩ := h
  have hK := gR_true hg
  refine ⟨⟨hK.1, hK.2.1⟩, hq, hn, fun s hs => ?_⟩
  have := incB_rng l (-1) hi s hs
  have hS : gStripes K M B = (B + K - 1) / K := by unfold gStripes; rw [hg]; rfl
  have hu : (B + K - 1) / K ≤ 203 := Int.le_trans (Int.ediv_le_self _ (by omega)) (by omega)
  omega
theorem laid {K M B q : Int} {l : List St} (hr : ordB K M B q l = true) {t : ByteArray} (hz : zeroB t = true) : Laid K M B q l (layS q l ++ t) := by
  obtain ⟨hK, hq, hn, hs⟩ := ord_facts hr
  have hc := sumT_lt (allT l)
  rw [lay_split]
  obtain ⟨t1, t2⟩ := txt_l markS (numL q 6 ++ (numL (l.length : Int) 1 ++ (nB l ++ (numL ((sumT (allT l) : Nat) : Int) 4 ++ t)))) 4 rfl
  obtain ⟨q1, q2⟩ := num_l q 6 (numL (l.length : Int) 1 ++ (nB l ++ (numL ((sumT (allT l) : Nat) : Int) 4 ++ t))) (by decide) (by decide) (by omega) (by have : ((256 ^ 6 : Nat) : Int) = 281474976710656 := rfl; omega)
  obtain ⟨k1, k2⟩ := num_l (l.length : Int) 1 (nB l ++ (numL ((sumT (allT l) : Nat) : Int) 4 ++ t)) (by decide) (by decide) (by omega) (by have : ((256 ^ 1 : Nat) : Int) = 256 := rfl; omega)
  obtain ⟨s1, s2⟩ := read_nB l (numL ((sumT (allT l) : Nat) : Int) 4 ++ t) hs
  obtain ⟨c1, c2⟩ := num_l ((sumT (allT l) : Nat) : Int) 4 t (by decide) (by decide) (by omega) (by have : ((256 ^ 4 : Nat) : Int) = 4294967296 := rfl; omega)
  generalize hH : markS ++ (numL q 6 ++ (numL (l.length : Int) 1 ++ (nB l ++ (numL ((sumT (allT l) : Nat) : Int) 4 ++ t)))) = H at *
  have w1 : hdW H = markS := t1
  have h1 : hd1 H = ⟨numL q 6 ++ (numL (l.length : Int) 1 ++ (nB l ++ (numL ((sumT (allT l) : Nat) : Int) 4 ++ t))), false⟩ := t2
  have h2 : hd2 H = ⟨numL (l.length : Int) 1 ++ (nB l ++ (numL ((sumT (allT l) : Nat) : Int) 4 ++ t)), false⟩ := by rw [hd2, h1]; exact q2
  have h3 : hd3 H = ⟨nB l ++ (numL ((sumT (allT l) : Nat) : Int) 4 ++ t), false⟩ := by rw [hd3, h2]; exact k2
  have eq : hdQ H = q := by rw [hdQ, h1]; exact q1
  have ek : hdK H = l.length := by
    have : ((hdK H : Nat) : Int) = (l.length : Int) := by rw [hdK, h2]; exact k1
    omega
  have es : hdS H = l.map fun s => bare s.n := by rw [hdS, h3, ek]; exact s2
  have ee : rdTo (hd3 H) (hdK H) = ⟨numL ((sumT (allT l) : Nat) : Int) 4 ++ t, false⟩ := by rw [h3, ek]; exact s1
  have ec : hdC H = ((sumT (allT l) : Nat) : Int) := by rw [hdC, ee]; exact c1
  have eE : hdE H = ⟨t, false⟩ := by rw [hdE, ee]; exact c2
  refine ⟨?_, eq, es, ec⟩
  unfold headB
  rw [w1, eE, eq, es, hz, ordB_nums (l := l.map fun s => bare s.n) (m := l) (by rw [List.map_map]; rfl), hr]; rfl
theorem right_ord {K M B q : Int} {l : List St} (h : rightB K M B q l = true) : ordB K M B q l = true := by unfold rightB at h; simp only [Bool.and_eq_true] at h; exact h.1
theorem laid_take {K M B q : Int} {l : List St} (hr : rightB K M B q l = true) {h : ByteArray} (hL : Laid K M B q l h) : takeB K M B h (allT l) = true ∧ takeL K h (allT l) = l.map pr := by
  have hf := right_f hr
  have hk : ∀ s ∈ l, s.d.length = K.toNat := fun s hs => by have := hf.d s hs; omega
  have hn : (hdS h).length = l.length := by rw [hL.s, List.length_map]
  constructor
  · unfold takeB
    have h1 : ((allT l).length : Int) = ((hdS h).length : Int) * K := by
      have := hf.k
      rw [allT_len hk, hn, Int.natCast_mul, Int.toNat_of_nonneg (by omega)]
    have h2 : txtB (allT l) = true := (txtB_iff _).2 fun t ht => by
      obtain ⟨s, hs, ht⟩ := List.mem_flatMap.1 ht
      exact hf.z s hs t ht
    rw [hL.t, decide_eq_true h1, h2, decide_eq_true hL.c.symm]; rfl
  · exact (take_l (by rw [hL.s, List.map_map]; rfl) hk rfl).symm
theorem laid_nil {K M B q : Int} {l : List St} (hr : ordB K M B q l = true) : Laid K M B q l (layS q l) := by
  have := laid hr (t := ⟨#[]⟩) rfl
  rwa [Rm.app_nil] at this
theorem lay_size {K M B q : Int} {l : List St} (hr : ordB K M B q l = true) : (layS q l).size = 15 + l.length := by
  obtain ⟨hK, hq, hn, hs⟩ := ord_facts hr
  have hc := sumT_lt (allT l)
  have e := lay_split q l ⟨#[]⟩
  rw [Rm.app_nil] at e
  have sz : ∀ (n : Int) (W : Nat), 1 ≤ W → W ≤ 7 → 0 ≤ n → n < ((256 ^ W : Nat) : Int) → (numL n (W : Int)).size = W := fun n W h1 h7 h0 h => by
    obtain ⟨k, rfl⟩ := Int.eq_ofNat_of_zero_le h0
    rw [Rm.numL_nat k W h1 h7 (by omega), lineOf_size, Pk.be_length]
  have nb : ∀ l : List St, (∀ s ∈ l, 0 ≤ s.n ∧ s.n < 256) → (nB l).size = l.length := by
    intro l
    induction l with
    | nil => intro _; rfl
    | cons s l ih =>
      intro h
      have h1 := sz s.n 1 (by decide) (by decide) (h s (List.mem_cons_self ..)).1 (by simpa using (h s (List.mem_cons_self ..)).2)
      have h1 : (numL s.n 1).size = 1 := h1
      rw [nB, ByteArray.size_append, h1, ih fun x hx => h x (List.mem_cons_of_mem _ hx), List.length_cons]; omega
  have a1 : (numL q 6).size = 6 := sz q 6 (by decide) (by decide) (by omega) (by have : ((256 ^ 6 : Nat) : Int) = 281474976710656 := rfl; omega)
  have a2 : (numL (l.length : Int) 1).size = 1 := sz _ 1 (by decide) (by decide) (by omega) (by have : ((256 ^ 1 : Nat) : Int) = 256 := rfl; omega)
  have a3 : (numL ((sumT (allT l) : Nat) : Int) 4).size = 4 := sz _ 4 (by decide) (by decide) (by omega) (by have : ((256 ^ 4 : Nat) : Int) = 4294967296 := rfl; omega)
  have a4 : markS.size = 4 := rfl
  rw [e]
  simp only [ByteArray.size_append, a1, a2, a3, a4, nb l hs]
  have : (⟨#[]⟩ : ByteArray).size = 0 := rfl
  omega
end Go.Proofs.YtfadglcpapiklaaGreatDoor
end
section
namespace Go.Proofs.YtfadglcpapiklaaGreatDoor
open Go.RowKit
set_option linter.unusedVariables false
set_option linter.unusedSimpArgs false

open Rc
def l11 (u v : Value) : List St := [⟨2, [blockS11 1], u⟩, ⟨3, [blockS11 2], v⟩]
theorem l11_right (u v : Value) : rightB 1 1 8 5 (l11 u v) = true := by
  unfold rightB ordB l11
  have h1 := blockS_size11 1
  have h2 := blockS_size11 2
  simp only [List.length_cons, List.length_nil, List.all_cons, List.all_nil, stB, txtB, h1, h2]
  rfl
theorem l11_bad : rightB 1 1 8 5 [] = false := by decide
theorem Own.room {w : World} {B : Nat} {E : TypeId} {v : Value} {xs : List Value} (h : Own w B E v xs) : ∀ a n c, v = .slice a n c → n ≤ c := by
  intro a n c e
  rcases h.o.2 with ⟨h1, h0⟩ | ⟨g, cap, cur, h1, h2, h3, h4, _⟩
  · rw [h1] at e; simp at e; omega
  · rw [h1] at e; simp at e; omega
theorem Reads.row (w : World) (t : ByteArray) : Reads (w.alloc (.cells #[.string t] 9)) (.slice (some ⟨w.heap.size, 0, none⟩) 1 1) ([t].map .string) := by
  refine .inr ⟨w.heap.size, 0, 1, rfl, by simp, fun i hi => ?_⟩
  obtain rfl : i = 0 := by simp at hi; omega
  rw [World.cell?_alloc_mark]; rfl
theorem l11_reads (w : World) (a b : Nat) (ha : Reads w (.slice (some ⟨a, 0, none⟩) 1 1) ([blockS11 1].map .string)) (hb : Reads w (.slice (some ⟨b, 0, none⟩) 1 1) ([blockS11 2].map .string)) :
    SReads (w.alloc (.cells #[.int .i64 2, .slice (some ⟨a, 0, none⟩) 1 1, .int .i64 3, .slice (some ⟨b, 0, none⟩) 1 1] 76)) (.slice (some ⟨w.heap.size, 0, none⟩) 2 2) (l11 (.slice (some ⟨a, 0, none⟩) 1 1) (.slice (some ⟨b, 0, none⟩) 1 1)) := by
  have bb : Below w.heap.size w (w.alloc (.cells #[.int .i64 2, .slice (some ⟨a, 0, none⟩) 1 1, .int .i64 3, .slice (some ⟨b, 0, none⟩) 1 1] 76)) := (Below.refl _ _).alloc (Nat.le_refl _) _
  have hz : ∀ n, ∀ t ∈ [blockS11 n], t.size ≤ 140737488355328 := fun n t ht => by rw [List.mem_singleton.1 ht, blockS_size11]; omega
  refine ⟨_, 2, rfl, fun i hi => ⟨w.heap.size, 0, rfl, ?_⟩⟩
  have hi2 : i < 2 := hi
  rcases Nat.lt_or_ge i 1 with h | h
  · obtain rfl : i = 0 := by omega
    exact ⟨⟨by rw [World.cell?_alloc_mark]; rfl, by rw [World.cell?_alloc_mark]; rfl, by simp⟩, ⟨ha.below bb, by simp [l11], hz 1⟩⟩
  · obtain rfl : i = 1 := by omega
    exact ⟨⟨by rw [World.cell?_alloc_mark]; rfl, by rw [World.cell?_alloc_mark]; rfl, by simp⟩, ⟨hb.below bb, by simp [l11], hz 2⟩⟩
end Go.Proofs.YtfadglcpapiklaaGreatDoor
end
section
namespace Go.Proofs.YtfadglcpapiklaaGreatDoor
open Go.RowKit Go.ChangeShapes Go.WideShapes Go.Deep
set_option linter.unusedVariables false
set_option linter.unusedSimpArgs false

def TextsD {H : Type} (d : DataW H) (l : List ByteArray) : Prop := d = .nil ∧ l = [] ∨ ∃ spare, d = .slice (l.map fun s => .lit (.string s.data.toList)) spare
def StpD {H : Type} (s : St) (d : DataW H) : Prop := ∃ dn dd : DataW H, d = .agg [dn, dd] ∧ TextsD dd s.d
theorem stp_und : Tryz.prog.underlying 76 = some (.struct (Tryz.prog.fieldsOf 76)) := by kernel_rfl
theorem stp_cells : Tryz.prog.cellsOf 76 = 2 := by kernel_rfl
theorem stp_size : (Tryz.prog.fieldsOf 76).size = 2 := by kernel_rfl
theorem rec_und : Tryz.prog.underlying 30 = some (.struct (Tryz.prog.fieldsOf 30)) := by kernel_rfl
theorem rec_cells : Tryz.prog.cellsOf 30 = 2 := by kernel_rfl
theorem rec_size : (Tryz.prog.fieldsOf 30).size = 2 := by kernel_rfl
theorem int_one : Tryz.prog.cellsOf 3 = 1 := by kernel_rfl
theorem str_one : Tryz.prog.cellsOf 9 = 1 := by kernel_rfl
theorem strs_one : Tryz.prog.cellsOf 54 = 1 := by kernel_rfl
theorem stps_one : Tryz.prog.cellsOf 28 = 1 := by kernel_rfl
section
variable {H : Type} {enc : TypeId × Value → H} {w : World} {base b0 : Nat} {held : Bool} {r : Reach}
set_option maxRecDepth 100000 in
theorem texts_in {n : Nat} {q : Value} {y : DataW H × List MemPlace} (h : DataW.trod enc Tryz.prog w base (fun _ => true) held n 54 [q] = some y) :
    ∃ l : List ByteArray, Reads w q (l.map .string) ∧ TextsD y.1 l := by
  rcases open_strings Tryz.underlying54 Tryz.underlying9 str_one h with ⟨hcs, rfl⟩ | ⟨a, len, cap, ss, hcs, _, hl, hm, hz, rfl, hcell, _⟩
  · obtain rfl : q = .slice none 0 0 := by simpa using hcs
    exact ⟨[], .inl ⟨⟨_, _, rfl⟩, rfl⟩, .inl ⟨rfl, rfl⟩⟩
  · obtain rfl : q = .slice (some a) len cap := by simpa using hcs
    simp only [if_true] at hz
    refine ⟨ss.take len, ?_, .inr ⟨_, rfl⟩⟩
    rcases Nat.eq_zero_or_pos len with rfl | hpos
    · exact .inl ⟨⟨_, _, rfl⟩, rfl⟩
    · have h0 := hcell 0 (by omega)
      obtain ⟨b, off, spot⟩ := a
      have hb : b < w.heap.size ∧ spot = none := by
        unfold World.cell? at h0
        have e1 : ((⟨b, off, spot⟩ : Addr).add 0).block = b := by unfold Addr.add; split <;> rfl
        rw [e1] at h0
        split at h0
        · rename_i c T0 F0 hb
          refine ⟨(Array.getElem?_eq_some_iff.1 hb).1, ?_⟩
          cases spot with
          | none => rfl
          | some s => simp [Addr.add] at h0
        · cases h0
      obtain ⟨hb, rfl⟩ := hb
      refine .inr ⟨b, off, cap, by simp; omega, hb, fun i hi => ?_⟩
      have hi' : i < len := by simp at hi; omega
      have := hcell i (by omega)
      rw [addr_at] at this
      rw [this]
      simp [List.getD_eq_getElem?_getD, List.getElem?_take, hi', show i < ss.length by omega]
set_option maxRecDepth 100000 in
theorem in_stp {fuel : Nat} {cs : List Value} {d : DataW H × List MemPlace} (h : DataW.trod enc Tryz.prog w base (fun _ => true) held fuel 76 cs = some d) :
    ∃ s : St, cs = stE.f s ∧ Reads w s.v (s.d.map .string) ∧ StpD s d.1 := by
  obtain ⟨ys, n, _, hx, hl, hn, hg⟩ := DataW.trod_struct stp_und h
  rw [stp_cells] at hl
  rw [stp_size] at hn
  match cs, hl with
  | [q0, q1], _ =>
  match ys, hn with
  | [y0, y1], _ =>
    have g0 : DataW.trod enc Tryz.prog w base (fun _ => true) held n 3 (([q0, q1].drop 0).take (Tryz.prog.cellsOf 3)) = some y0 := hg 0 _ rfl
    have g1 : DataW.trod enc Tryz.prog w base (fun _ => true) held n 54 (([q0, q1].drop 1).take (Tryz.prog.cellsOf 54)) = some y1 := hg 1 _ rfl
    rw [int_one] at g0
    rw [strs_one] at g1
    obtain ⟨a0, rfl, _, _⟩ := field_int Tryz.underlying3 g0
    obtain ⟨l, R, D⟩ := texts_in g1
    refine ⟨⟨a0, l, q1⟩, ?_, R, ⟨y0.1, y1.1, by rw [hx]; rfl, D⟩⟩
    have e := cell1_of R
    simp only [stE, e]
end
section
variable {H : Type}
theorem textsD_len {d : DataW H} {l : List ByteArray} (h : TextsD d l) (hw : LightD Tryz.prog 54 d) : l.length ≤ 140737488351232 ∧ ∀ t ∈ l, t.size ≤ 140737488351232 := by
  rcases h with ⟨_, rfl⟩ | ⟨spare, rfl⟩
  · exact ⟨by simp, fun t ht => by cases ht⟩
  · have h1 := light_len hw Tryz.underlying54 (of_decide_eq_true (by kernel_rfl))
    refine ⟨by simpa using h1, fun t ht => ?_⟩
    have h2 := light_at hw Tryz.underlying54 (d := .lit (.string t.data.toList)) (List.mem_map.2 ⟨t, ht, rfl⟩) t.data.toList.length (by simp [DataW.weights])
    simpa [reachBytes] using h2
set_option maxRecDepth 100000 in
theorem stp_fields : (∃ f, (Tryz.prog.fieldsOf 76)[1]? = some f ∧ f.type = 54) ∧ ∃ f, (Tryz.prog.fieldsOf 30)[1]? = some f ∧ f.type = 28 := ⟨⟨_, rfl, rfl⟩, ⟨_, rfl, rfl⟩⟩
end
section
variable {H : Type} {enc : TypeId × Value → H} {w : World} {base b0 : Nat} {held : Bool} {r : Reach} {ts : List TypeId} {ds : List (DataW H)}
set_option maxRecDepth 100000 in
/-- A record that came in. -/
theorem open_rec {v : Value} {d : DataW H} {p : List MemPlace} (hv : Value.okWide Tryz.prog w r b0 30 v) (h : DataW.Trod enc Tryz.prog w base (fun _ => true) held 30 v d p) (hsz : (DataW.weightsEach Tryz.prog ts ds).all (· ≤ reachBytes) = true) {j : Nat} (ht : ts[j]? = some 30) (hd : ds[j]? = some d) :
    ∃ (q : Int) (u : Value) (l : List St), v = .agg #[.int .i64 q, u] ∧ SReads w u l ∧ l.length ≤ 140737488351232 ∧ -9223372036854775808 ≤ q ∧ q ≤ 9223372036854775807 := by
  obtain ⟨cs, rfl, hcz⟩ := okWide_struct rec_und hv
  obtain ⟨fuel, hf⟩ := h
  obtain ⟨ys, n, _, hx, hl, hn, hg⟩ := DataW.trod_struct rec_und hf
  rw [rec_cells] at hl
  rw [rec_size] at hn
  obtain ⟨cl⟩ := cs
  simp only [Value.cells] at hl hg
  match cl, hl with
  | [q0, q1], _ =>
  match ys, hn with
  | [y0, y1], _ =>
    have g0 : DataW.trod enc Tryz.prog w base (fun _ => true) held n 3 (([q0, q1].drop 0).take (Tryz.prog.cellsOf 3)) = some y0 := hg 0 _ rfl
    have g1 : DataW.trod enc Tryz.prog w base (fun _ => true) held n 28 (([q0, q1].drop 1).take (Tryz.prog.cellsOf 28)) = some y1 := hg 1 _ rfl
    rw [int_one] at g0
    rw [stps_one] at g1
    obtain ⟨a0, rfl, _, ra, rb⟩ := field_int Tryz.underlying3 g0
    obtain ⟨l, v', e, R, C, _, D⟩ := open_structs stE Tryz.underlying28 stp_cells (Good := fun s y => Reads w s.v (s.d.map .string) ∧ StpD s y) (fun n cs y hy => in_stp hy) g1
    obtain rfl : v' = q1 := by simpa using e.symm
    simp only [Prod.mk.injEq] at hx
    have hw := light_arg hsz ht hd
    rw [hx.1] at hw
    obtain ⟨⟨f1, hf1, t1⟩, ⟨f2, hf2, t2⟩⟩ := stp_fields
    have hw1 := light_field hw rec_und hf2 t2 (i := 1) rfl
    refine ⟨a0, v', l, rfl, SReads.of R fun s hs => ?_, D.len hw1 Tryz.underlying28 (of_decide_eq_true (by kernel_rfl)), ra, rb⟩
    obtain ⟨y, ⟨hr, dn, dd, rfl, hT⟩, hy⟩ := D.each hw1 Tryz.underlying28 s hs
    obtain ⟨l1, l2⟩ := textsD_len hT (light_field hy stp_und hf1 t1 (i := 1) rfl)
    exact ⟨hr, by omega, fun t ht => by have := l2 t ht; omega⟩
end
end Go.Proofs.YtfadglcpapiklaaGreatDoor
end
section
namespace Go.Proofs.YtfadglcpapiklaaGreatDoor
open Go.RowKit Go.ChangeShapes Go.WideShapes Go.Deep
set_option linter.unusedVariables false
set_option linter.unusedSimpArgs false

def I64 (a : Int) : Prop := -9223372036854775808 ≤ a ∧ a ≤ 9223372036854775807
theorem wf_rng {n : Int} (h : (Lit.int .i64 n).wf = true) : I64 n := by
  simp [Lit.wf, IntKind.min, IntKind.max, IntKind.signed, IntKind.bits] at h; exact ⟨by omega, by omega⟩
def NumsD {H : Type} (d : DataW H) (l : List Int) : Prop := d = .nil ∧ l = [] ∨ ∃ spare, d = .slice (l.map fun n => .lit (.int .i64 n)) spare
section
variable {H : Type} {P : Program} {ts : List TypeId} {ds : List (DataW H)}
theorem weights_nth {n : Nat} {t : TypeId} {d : DataW H} : ∀ {fs : List TypeId} {ys : List (DataW H)} {i : Nat}, fs[i]? = some t → ys[i]? = some d → n ∈ d.weights P t → n ∈ DataW.weightsEach P fs ys := by
  intro fs
  induction fs with
  | nil => intro ys i h; simp at h
  | cons f fs ih =>
    intro ys i h1 h2 h3
    cases ys with
    | nil => simp at h2
    | cons y ys =>
      simp only [DataW.weightsEach, List.mem_append]
      cases i with
      | zero => simp at h1 h2; subst h1 h2; exact .inl h3
      | succ i => exact .inr (ih (by simpa using h1) (by simpa using h2) h3)
theorem nums_small (h : (DataW.weightsEach P ts ds).all (· ≤ reachBytes) = true) {j i : Nat} {t e u : TypeId} {fs : Array Field} {f : Field} {ys : List (DataW H)} {d : DataW H} {l : List Int} (ht : ts[j]? = some t) (hd : ds[j]? = some (.agg ys)) (hu : P.underlying t = some (.struct fs))
    (hf : fs[i]? = some f) (hft : f.type = u) (hy : ys[i]? = some d) (hs : P.underlying u = some (.slice e)) (hb : P.bytesOf e = 8) (hl : NumsD d l) : l.length ≤ 140737488351232 := by
  rcases hl with ⟨_, rfl⟩ | ⟨spare, rfl⟩
  · simp
  · have := List.all_eq_true.1 h _ (DataW.weights_mem_each ht hd ((l.length + spare.length) * 8) (by
      simp only [DataW.weights, hu]
      refine weights_nth (i := i) (t := u) (by simp [hf, hft]) hy ?_
      simp [DataW.weights, hs, hb]))
    have h2 : (l.length + spare.length) * 8 ≤ reachBytes := of_decide_eq_true this
    simp [reachBytes] at h2
    omega
end
theorem geo_flat : flatF Tryz.prog (Tryz.prog.fieldsOf 23) = true := by kernel_rfl
theorem geo_cells : Tryz.prog.cellsOf 23 = (Tryz.prog.fieldsOf 23).size := by kernel_rfl
theorem geo_und : Tryz.prog.underlying 23 = some (.struct (Tryz.prog.fieldsOf 23)) := by kernel_rfl
theorem geo_three : Tryz.prog.cellsOf 23 = 3 := by kernel_rfl
theorem ints_one : Tryz.prog.cellsOf 24 = 1 := by kernel_rfl
theorem int_eight : Tryz.prog.bytesOf 3 = 8 := by kernel_rfl
section
variable {H : Type} {enc : TypeId × Value → H} {w : World} {base b0 : Nat} {held : Bool} {r : Reach}
set_option maxRecDepth 100000 in
theorem geo_parts {n : Nat} {q3 q4 q5 : Value} {y : DataW H × List MemPlace} (h : DataW.trod enc Tryz.prog w base (fun _ => true) held n 23 [q3, q4, q5] = some y) :
    ∃ a b c : Int, q3 = .int .i64 a ∧ q4 = .int .i64 b ∧ q5 = .int .i64 c ∧ I64 a ∧ I64 b ∧ I64 c := by
  obtain ⟨ys, n', _, _, hl, hg⟩ := trod_fields geo_und geo_flat geo_cells h
  obtain ⟨c0, y0, e0, k0, t0⟩ := hg 0 _ rfl
  obtain ⟨c1, y1, e1, k1, t1⟩ := hg 1 _ rfl
  obtain ⟨c2, y2, e2, k2, t2⟩ := hg 2 _ rfl
  obtain ⟨a, rfl, _, ra⟩ := field_int Tryz.underlying3 t0
  obtain ⟨b, rfl, _, rb⟩ := field_int Tryz.underlying3 t1
  obtain ⟨c, rfl, _, rc⟩ := field_int Tryz.underlying3 t2
  exact ⟨a, b, c, by simpa using e0, by simpa using e1, by simpa using e2, ra, rb, rc⟩
set_option maxRecDepth 100000 in
/-- A list of numbers in a cell. -/
theorem nums_cell {n : Nat} {q : Value} {y : DataW H × List MemPlace} (hq : Value.okWide Tryz.prog w r b0 24 q) (h : DataW.trod enc Tryz.prog w base (fun _ => true) held n 24 [q] = some y) :
    ∃ l : List Int, Reads w q (l.map (.int .i64)) ∧ (∀ n ∈ l, I64 n) ∧ NumsD y.1 l := by
  obtain ⟨a0, len0, cap0, rfl⟩ := okWide_slice Tryz.underlying24 hq
  obtain ⟨l, h1, _, h3, h4⟩ := open_nums (d := y.1) (p := y.2) Tryz.underlying24 Tryz.underlying3 int_one hq ⟨n, h⟩
  exact ⟨l, h1, fun m hm => wf_rng (h3 m hm), h4⟩
theorem raw_und : Tryz.prog.underlying 26 = some (.struct (Tryz.prog.fieldsOf 26)) := by kernel_rfl
theorem raw_cells : Tryz.prog.cellsOf 26 = 6 := by kernel_rfl
theorem raw_size : (Tryz.prog.fieldsOf 26).size = 4 := by kernel_rfl
theorem raw_types : Tryz.prog.cellTypes Tryz.prog.depth 26 = some [3, 3, 3, 3, 24, 24] := by kernel_rfl
/-- Its numbers fit. -/
structure NumsR (x : Raw) : Prop where
  k : I64 x.k
  m : I64 x.m
  b : I64 x.b
  q : I64 x.q
  st : ∀ n ∈ x.st, I64 n
  le : ∀ n ∈ x.le, I64 n
set_option maxRecDepth 100000 in
theorem parts_raw {fuel : Nat} {cs : List Value} {d : DataW H × List MemPlace} (hrow : Row.okWide Tryz.prog w r b0 26 cs.toArray) (h : DataW.trod enc Tryz.prog w base (fun _ => true) held fuel 26 cs = some d) :
    ∃ (x : Raw) (va vb : Value) (d2 d3 : DataW H) (ys : List (DataW H)), cs = [.int .i64 x.k, .int .i64 x.m, .int .i64 x.b, .int .i64 x.q, va, vb] ∧ Reads w va (x.st.map (.int .i64)) ∧ Reads w vb (x.le.map (.int .i64)) ∧ NumsR x ∧
      d.1 = .agg ys ∧ ys[2]? = some d2 ∧ ys[3]? = some d3 ∧ NumsD d2 x.st ∧ NumsD d3 x.le := by
  obtain ⟨ys, n, _, hx, hl, hn, hg⟩ := DataW.trod_struct raw_und h
  rw [raw_cells] at hl
  rw [raw_size] at hn
  match cs, hl with
  | [q0, q1, q2, q3, q4, q5], _ =>
  match ys, hn with
  | [y0, y1, y2, y3], _ =>
    have g0 : DataW.trod enc Tryz.prog w base (fun _ => true) held n 23 (([q0, q1, q2, q3, q4, q5].drop 0).take (Tryz.prog.cellsOf 23)) = some y0 := hg 0 _ rfl
    have g1 : DataW.trod enc Tryz.prog w base (fun _ => true) held n 3 (([q0, q1, q2, q3, q4, q5].drop 3).take (Tryz.prog.cellsOf 3)) = some y1 := hg 1 _ rfl
    have g2 : DataW.trod enc Tryz.prog w base (fun _ => true) held n 24 (([q0, q1, q2, q3, q4, q5].drop 4).take (Tryz.prog.cellsOf 24)) = some y2 := hg 2 _ rfl
    have g3 : DataW.trod enc Tryz.prog w base (fun _ => true) held n 24 (([q0, q1, q2, q3, q4, q5].drop 5).take (Tryz.prog.cellsOf 24)) = some y3 := hg 3 _ rfl
    rw [geo_three] at g0
    rw [int_one] at g1
    rw [ints_one] at g2 g3
    obtain ⟨ct, hct, _, hcell⟩ := hrow
    rw [raw_types] at hct
    obtain rfl := Option.some.inj hct
    have hs : ∀ i q, [q0, q1, q2, q3, q4, q5].toArray[i]? = some q → 4 ≤ i → i < 6 → Value.okWide Tryz.prog w r b0 24 q := fun i q hq h6 h9 => by
      obtain ⟨u, hu, hc⟩ := hcell i q hq
      have : u = 24 := by
        rcases (by omega : i = 4 ∨ i = 5) with rfl | rfl <;> simpa using hu.symm
      subst this
      unfold Value.okWide
      rw [Tryz.underlying24]
      exact hc
    obtain ⟨a0, a1, a2, rfl, rfl, rfl, r0, r1, r2⟩ := geo_parts g0
    obtain ⟨a3, rfl, _, r3⟩ := field_int Tryz.underlying3 g1
    obtain ⟨l4, R4, I4, D4⟩ := nums_cell (hs 4 q4 rfl (by decide) (by decide)) g2
    obtain ⟨l5, R5, I5, D5⟩ := nums_cell (hs 5 q5 rfl (by decide) (by decide)) g3
    exact ⟨⟨a0, a1, a2, a3, l4, l5⟩, q4, q5, y2.1, y3.1, _, rfl, R4, R5, ⟨r0, r1, r2, r3, I4, I5⟩, by rw [hx], rfl, rfl, D4, D5⟩
set_option maxRecDepth 100000 in
theorem open_raw11 {v : Value} {d : DataW H} {p : List MemPlace} (hv : Value.okWide Tryz.prog w r b0 26 v) (h : DataW.Trod enc Tryz.prog w base (fun _ => true) held 26 v d p) {ts : List TypeId} {ds : List (DataW H)} (hsz : (DataW.weightsEach Tryz.prog ts ds).all (· ≤ reachBytes) = true) {j : Nat} (ht : ts[j]? = some 26) (hd : ds[j]? = some d) :
    ∃ (x : Raw) (va vb : Value), v = x.v va vb ∧ Reads w va (x.st.map (.int .i64)) ∧ Reads w vb (x.le.map (.int .i64)) ∧ RawOk x := by
  unfold Value.okWide at hv
  rw [raw_und] at hv
  obtain ⟨cs, rfl, _, hrow⟩ := hv
  obtain ⟨fuel, hf⟩ := h
  obtain ⟨x, va, vb, d2, d3, ys, e1, R1, R2, N, ed, e2, e3, k2, k3⟩ := parts_raw (cs := cs.toList) (by simpa using hrow) hf
  refine ⟨x, va, vb, congrArg Value.agg (Array.ext' e1), R1, R2, ?_⟩
  have ed : d = .agg ys := ed
  subst ed
  have s2 := nums_small hsz ht hd raw_und (i := 2) rfl rfl e2 Tryz.underlying24 int_eight k2
  have s3 := nums_small hsz ht hd raw_und (i := 3) rfl rfl e3 Tryz.underlying24 int_eight k3
  exact ⟨N.k, N.m, N.b, N.q, N.st, N.le, by omega, by omega⟩
end
end Go.Proofs.YtfadglcpapiklaaGreatDoor
end
