/- rack: rows of texts of the law's own, one behind the other; what crashes and flushes of little leave. -/
import Derived.Test.YtofhmdbilhdblaaRackAwake
namespace Go.Proofs.Ytofhmdbilhdblaa
open Go.RowKit
set_option linter.unusedVariables false
set_option linter.unusedSimpArgs false
set_option maxRecDepth 100000

theorem pendN (n : Nat) : pend n noV = [] := by
  rw [List.eq_nil_iff_forall_not_mem]
  intro x hx
  obtain ⟨i, _, h2, _⟩ := mem_pend.1 hx
  simp [zOf, noV] at h2
theorem crashN (L : List ByteArray) (ch : List Int) : crash L noV ch = L := by
  unfold crash
  rw [pendN]; rfl
theorem flushN (L : List ByteArray) : flush L noV = L := by
  have := flL_same L noV (fun _ => false) (fun i _ h => absurd rfl h)
  rw [← this]
  exact flL_none L noV _ (fun _ _ => rfl)
theorem crashN_len (L : List ByteArray) (V : Int → List ByteArray) (ch : List Int) : (crash L V ch).length = L.length := crL_len L V ch _ _
theorem flushN_len (L : List ByteArray) (V : Int → List ByteArray) : (flush L V).length = L.length := flL_len L V _
theorem flush_one (L : List ByteArray) (i : Nat) (hi : i < L.length) (s : ByteArray) : flush L (updZ noV (i : Int) (noV (i : Int) ++ [s])) = L.set i s := by
  have h1 : flL L (updZ noV (i : Int) (noV (i : Int) ++ [s])) (fun _ => false) = L := flL_none _ _ _ (fun _ _ => rfl)
  have h2 := flL_set L (updZ noV (i : Int) (noV (i : Int) ++ [s])) (fun _ => false) (fun z => decide (z = (i : Int))) i hi s (by rw [updZ_same]; rfl) (decide_eq_true rfl) (fun j hj _ => decide_eq_false (by omega))
  rw [h1] at h2
  rw [h2]
  exact (flL_same _ _ _ (fun j hj hv => decide_eq_true (Classical.byContradiction fun e => hv (by rw [updZ_other _ _ _ _ e]; rfl)))).symm
theorem sector_q9 (n : Int) (hn : In64 n) (w : World) : Calls Try.prog 11 #[.int .i64 n] w fun e w' => e = .returned (.string (sec n)) ∧ Below w.heap.size w w' := sector_any n hn w
theorem updV9_le {V : Int → List ByteArray} {k : Nat} (h : ∀ z, (V z).length ≤ k) (i : Int) (s : ByteArray) : ∀ z, (updZ V i (V i ++ [s]) z).length ≤ k + 1 := fun z => by
  unfold updZ
  by_cases e : z = i
  · rw [if_pos e, List.length_append]; have := h i; simp; omega
  · rw [if_neg e]; have := h z; omega
theorem pick9_any (c : Int) (n : Nat) (hc : In64 c) (h1 : 1 ≤ n) (h2 : n ≤ 4611686018427387904) (w : World) :
    Calls Try.prog 40 #[.int .i64 c, .int .i64 (n : Int)] w fun e w' => e = .returned (.int .i64 ((pickC c % n : Nat) : Int)) ∧ w = w' := by
  obtain ⟨a1, a2⟩ := in64_iff.1 hc
  obtain ⟨p, hp⟩ : ∃ p, pickC c = p := ⟨_, rfl⟩
  rw [hp]
  have hmod2 : ((p : Int)) % (n : Int) = ((p % n : Nat) : Int) := (Int.natCast_emod p n).symm
  have hmod : ((p : Int)).tmod (n : Int) = ((p % n : Nat) : Int) := by rw [Int.tmod_eq_emod_of_nonneg (by omega)]; exact hmod2
  have hn0 : ¬ (n : Int) = 0 := by omega
  have hn1 : ¬ n = 0 := by omega
  generalize p % n = r at *
  by_cases hneg : c < 0
  · have hcq : c + 1 = -(p : Int) := by unfold pickC at hp; rw [if_pos hneg] at hp; omega
    have hw1 : IntKind.i64.wrap (c + 1) = -(p : Int) := wrap_add _ _ hcq (by omega) (by omega)
    have hw2 : IntKind.i64.wrap (p : Int) = (p : Int) := wrap_in (by omega) (by omega)
    clear hcq hp a1 a2 hc h1 h2
    go_enter Try.func40, Try.ntmps40
    go_wp2
    go_ret
    exact ⟨rfl, rfl⟩
  · have hcq : c = (p : Int) := by unfold pickC at hp; rw [if_neg hneg] at hp; omega
    clear hp a1 a2 hc h1 h2
    subst hcq
    go_enter Try.func40, Try.ntmps40
    go_wp2
    go_ret
    exact ⟨rfl, rfl⟩
theorem str_is9 : ∃ i, Try.prog.info? 9 = some i ∧ i.zero = some (.string ⟨#[]⟩) ∧ i.size = 1 ∧ i.bytes = 16 := (cont_gen (P := Try.prog) (t := 9) (c := .string ⟨#[]⟩) (n := 1) (k := 16) (by kernel_rfl)).2
theorem strs_is9 : ∃ i, Try.prog.info? 47 = some i ∧ i.zero = some (.slice none 0 0) ∧ i.size = 1 ∧ i.bytes = 24 := (cont_gen (P := Try.prog) (t := 47) (c := .slice none 0 0) (n := 1) (k := 24) (by kernel_rfl)).2
/-- Rows of texts in a row, all of one's own; no block of S among them. -/
structure Was (w : World) (B : Nat) (S : Nat → Prop) (j : Nat) (v : Value) (X : Nat → Value) (D : Nat → List ByteArray) : Prop where
  o : Own w B 47 v (rowV j X)
  r : ∀ i, i < j → Own w B 9 (X i) ((D i).map .string)
  a : ∀ i, i < j → Apart (X i) v
  sv : ∀ b, v.ownBlock = some b → ¬ S b
  sx : ∀ i, i < j → ∀ b, (X i).ownBlock = some b → ¬ S b
section
variable {w w' : World} {B j : Nat} {S S' : Nat → Prop} {v : Value} {X : Nat → Value} {D : Nat → List ByteArray}
theorem Was.nil (w : World) (B : Nat) (S : Nat → Prop) (X : Nat → Value) (D : Nat → List ByteArray) : Was w B S 0 (.slice none 0 0) X D :=
  ⟨Own.nil _ _ _, fun i h => absurd h (Nat.not_lt_zero _), fun i h => absurd h (Nat.not_lt_zero _), fun b h => (by cases h), fun i h => absurd h (Nat.not_lt_zero _)⟩
theorem Was.after (h : Was w B S j v X D) (hb : Below w.heap.size w w') : Was w' B S j v X D := ⟨h.o.after hb, fun i hi => (h.r i hi).after hb, h.a, h.sv, h.sx⟩
theorem Was.step (h : Was w B S j v X D) (hs : Stp S S' w w') : Was w' B S' j v X D := by
  have old : ∀ b, b < w.heap.size → ¬ S b → ¬ S' b := fun b hb hn hs' => by
    rcases hs.grow b hs' with z | z
    · exact hn z
    · omega
  exact ⟨h.o.sameAt fun b hb => hs.oth b (h.o.o.lt b hb).2 (h.sv b hb), fun i hi => (h.r i hi).sameAt fun b hb => hs.oth b ((h.r i hi).o.lt b hb).2 (h.sx i hi b hb), h.a,
    fun b hb => old b (h.o.o.lt b hb).2 (h.sv b hb), fun i hi b hb => old b ((h.r i hi).o.lt b hb).2 (h.sx i hi b hb)⟩
/-- One more row is appended. -/
theorem Was.push (h : Was w B S j v X D) (hB : B ≤ w.heap.size) (hj : j ≤ 1000) {x n : Nat} {l : List ByteArray} {w2 : World} (hb2 : Below w.heap.size w w2) (ho : Own w2 w.heap.size 9 (.slice (some ⟨x, 0, none⟩) n n) (l.map .string)) (hS : ∀ b, S b → b < w.heap.size) :
    ∃ v' w3, (∃ a n c, v' = .slice a n c) ∧ (Builtin.append_ #[69, 69] 69 #[v, .slice (some ⟨w2.heap.size, 0, none⟩) 1 1]).run Try.prog (w2.alloc (.cells #[.slice (some ⟨x, 0, none⟩) n n] 47)) = .ok v' w3 ∧
      Was w3 B S (j + 1) v' (upd X j (.slice (some ⟨x, 0, none⟩) n n)) (upd D j l) ∧ Below B w2 w3 ∧ ∀ b, S b → w3.heap[b]? = w2.heap[b]? := by
  obtain ⟨si, s1, s2, s3, s4⟩ := strs_is9
  have h2 := h.after hb2
  have hsz := hb2.size
  obtain ⟨v', w3, hap, ho3, hb3, hk, hv⟩ := Own.pushA (P := Try.prog) (T := 69) Try.underlying69 s1 s2 s3 s4 rfl h2.o (.slice (some ⟨x, 0, none⟩) n n) rfl (by omega) (by rw [rowV_len]; omega) (by rw [rowV_len]; omega)
  obtain ⟨gv, cv, ev, _, _⟩ := ho3.form (by simp)
  have hxw : w.heap.size ≤ x ∧ x < w2.heap.size := ho.lt
  have xv : Apart (.slice (some ⟨x, 0, none⟩) n n) v := fun b hb e => by
    have e1 : x = b := by simpa [Value.ownBlock] using hb
    have := (h.o.o.lt b e).2; omega
  have vnew : ∀ b, v'.ownBlock = some b → v.ownBlock = some b ∨ b = w2.heap.size + 1 := fun b e => by
    rcases hv with z | z
    · exact .inl (by rw [← z]; exact e)
    · rw [z] at e; injection e with e; exact .inr e.symm
  refine ⟨v', w3, ⟨_, _, _, ev⟩, hap, ⟨?_, fun i hi => ?_, fun i hi => ?_, fun b hb => ?_, fun i hi b hb => ?_⟩, hb3, fun b hb => hk b (Nat.lt_of_lt_of_le (hS b hb) hsz) (fun e => h.sv b e hb)⟩
  · have e : rowV j X ++ [.slice (some ⟨x, 0, none⟩) n n] = rowV (j + 1) (upd X j (.slice (some ⟨x, 0, none⟩) n n)) := by
      unfold rowV
      rw [List.range_succ, List.map_append]
      congr 1
      · apply List.map_congr_left
        intro i hi
        have := List.mem_range.1 hi
        rw [upd_other _ _ _ _ (by omega)]
      · simp [upd]
    rw [← e]; exact ho3
  · by_cases e : i = j
    · subst e
      rw [upd_same, upd_same]
      exact (ho.mono hB).kept hk xv
    · rw [upd_other _ _ _ _ e, upd_other _ _ _ _ e]
      exact (h2.r i (by omega)).kept hk (h.a i (by omega))
  · by_cases e : i = j
    · subst e
      rw [upd_same]
      exact Apart.push ho xv hv
    · rw [upd_other _ _ _ _ e]
      exact Apart.push (h2.r i (by omega)) (h.a i (by omega)) hv
  · rcases vnew b hb with z | z
    · exact h.sv b z
    · exact fun hs => by have := hS b hs; omega
  · by_cases e : i = j
    · subst e
      rw [upd_same] at hb
      have e1 : x = b := by simpa [Value.ownBlock] using hb
      exact fun hs => by have := hS b hs; omega
    · rw [upd_other _ _ _ _ e] at hb; exact h.sx i (by omega) b hb
theorem Was.cell {q n c : Nat} (h : Was w B S j (.slice (some ⟨q, 0, none⟩) n c) X D) {i : Nat} (hi : i < j) : w.cell? ⟨q, i, none⟩ = some (X i) := by
  rw [h.o.cell (i := i) (by rw [rowV_len]; exact hi), rowV_get _ _ _ hi]
end
end Go.Proofs.Ytofhmdbilhdblaa

