/- member: what is written. -/
import Derived.Test.YtofhmdbilhdblaaMemStep
namespace Go.Proofs.Ytofhmdbilhdblaa
open Go.RowKit
set_option linter.unusedVariables false
set_option linter.unusedSimpArgs false

/-- Only blocks of S were turned; S' holds no other of the elder ones. -/
structure Stp (S S' : Nat → Prop) (w w' : World) : Prop where
  b0 : Below 0 w w'
  oth : ∀ k, k < w.heap.size → ¬ S k → w'.heap[k]? = w.heap[k]?
  grow : ∀ k, S' k → S k ∨ w.heap.size ≤ k
theorem Stp.below {S S' : Nat → Prop} {w w' : World} (h : Stp S S' w w') {B : Nat} (hS : ∀ k, S k → B ≤ k) (hB : B ≤ w.heap.size) : Below B w w' :=
  ⟨h.b0.os, h.b0.tape, h.b0.output, h.b0.size, fun k hk => h.oth k (by omega) (fun hs => by have := hS k hs; omega)⟩
theorem Stp.refl (S : Nat → Prop) (w : World) : Stp S S w w := ⟨Below.refl _ _, fun _ _ _ => rfl, fun k h => .inl h⟩
theorem Stp.trans {S S' S'' : Nat → Prop} {w w1 w2 : World} (h : Stp S S' w w1) (k : Stp S' S'' w1 w2) : Stp S S'' w w2 :=
  ⟨h.b0.trans k.b0, fun i hi hn => (k.oth i (Nat.lt_of_lt_of_le hi h.b0.size) (fun hs => by rcases h.grow i hs with h1 | h1; exact hn h1; omega)).trans (h.oth i hi hn),
   fun i hi => by
    rcases k.grow i hi with h1 | h1
    · exact h.grow i h1
    · exact .inr (Nat.le_trans h.b0.size h1)⟩
theorem Stp.quiet {S : Nat → Prop} {w w' : World} (h : Below w.heap.size w w') : Stp S S w w' := ⟨h.mono (Nat.zero_le _), fun k hk _ => h.block k hk, fun k h => .inl h⟩
/-- What is apart stays. -/
theorem PBox.apart {w w' : World} {S T T' : Nat → Prop} {m g bp cap : Nat} {fd : Bool} {L : List ByteArray} {V : Int → List ByteArray} {F : Int → Value} (h : PBox w S m g bp cap fd L V F) (k : Stp T T' w w') (hd : ∀ i, S i → ¬ T i) : PBox w' S m g bp cap fd L V F :=
  h.heap (fun i hi => k.oth i (h.lt i hi) (hd i hi)) k.b0.size
theorem PBox.drew {w : World} {S : Nat → Prop} {m g bp cap : Nat} {fd : Bool} {L : List ByteArray} {V : Int → List ByteArray} {F : Int → Value} (h : PBox w S m g bp cap fd L V F) : PBox w.drew S m g bp cap fd L V F := h.heap (fun _ _ => rfl) (Nat.le_refl _)
/-- What a write makes of a member. -/
theorem PBox.grown {w w1 w3 w4 : World} {S : Nat → Prop} {m g bp cap : Nat} {L : List ByteArray} {V : Int → List ByteArray} {F : Int → Value} (h : PBox w S m g bp cap false L V F) (i : Nat) (hi : i < L.length) (s : ByteArray) (hs : s.size = 128) (v' : Value)
    (b1 : Below w.heap.size w w1) (ho : OwnE EC w3 0 80 v' (V i ++ [s])) (b3 : Below 0 w1 w3) (hk : KeptBut (F i) w1 w3) (hv : v'.ownBlock = (F i).ownBlock ∨ v'.ownBlock = some (w1.heap.size + 1))
    (hm : MapZ w4 Try.prog 3 bp (L.length + 1) (updZ (zOf V) i true) (updZ F i v') nilS) (ht : w3.mapTurned w4 bp) :
    ∃ S', Stp S S' w w4 ∧ PBox w4 S' m g bp cap false L (updZ V i (V i ++ [s])) (updZ F i v') := by
  have hI := in64_nat i (by have := h.n2; omega)
  have hg := ht.grown
  have hFi := h.sr i hI
  have hlt := h.lt
  have keep4 : ∀ k, k < w.heap.size → k ≠ bp → (F i).ownBlock ≠ some k → w4.heap[k]? = w.heap[k]? := fun k h1 h2 h3 =>
    (hg.block k (by have := b1.size; have := b3.size; omega) (by simpa using h2)).trans ((hk k (by have := b1.size; omega) h3).trans (b1.block k h1))
  have hsz : w.heap.size ≤ w4.heap.size := by have := b1.size; have := b3.size; have := hg.size; omega
  have hvb : ∀ k, v'.ownBlock = some k → (F i).ownBlock = some k ∨ w.heap.size ≤ k := fun k hk' => by
    rcases hv with e | e
    · exact .inl (e ▸ hk')
    · rw [e] at hk'; injection hk' with hk'; right; have := b1.size; omega
  have hv4 : ∀ k, v'.ownBlock = some k → k < w4.heap.size := fun k hk' => by have := (ho.lt k hk').2; have := hg.size; omega
  have nb : ∀ k, (F i).ownBlock = some k → k ≠ bp := fun k hk' => (hFi k hk').2.2.2
  refine ⟨fun k => S k ∨ (w.heap.size ≤ k ∧ k < w4.heap.size), ⟨⟨?_, ?_, ?_, hsz, fun k hk => absurd hk (Nat.not_lt_zero _)⟩, fun k h1 h2 => keep4 k h1 (fun e => h2 (e ▸ h.sp)) (fun e => h2 (hFi k e).1), fun k hk => hk.imp id And.left⟩,
    ⟨?_, ?_, ?_, ?_, .inl h.sm, .inl h.sg, .inl h.sp, ?_, ?_, h.mg, h.mp, h.gp, ?_, ?_, h.n1, h.n2, h.zl, ?_⟩⟩
  · exact hg.os.trans (b3.os.trans b1.os)
  · exact hg.tape.trans (b3.tape.trans b1.tape)
  · exact hg.output.trans (b3.output.trans b1.output)
  · rw [keep4 m (hlt m h.sm) h.mp (fun e => (hFi m e).2.1 rfl)]; exact h.b
  · refine h.l.sameAt fun k hk => ?_
    injection hk with hk; subst hk
    exact keep4 _ (hlt g h.sg) h.gp (fun e => (hFi g e).2.2.1 rfl)
  · refine (?_ : MapZ w4 Try.prog 3 bp (L.length + 1) (zOf (updZ V i (V i ++ [s]))) (updZ F i v') nilS).tight Try.underlying3 L.length fun z hz hz2 => ?_
    · have e : zOf (updZ V i (V i ++ [s])) = updZ (zOf V) i true := by
        funext z
        unfold zOf updZ
        by_cases e : z = (i : Int)
        · rw [if_pos e, if_pos e]; simp
        · rw [if_neg e, if_neg e]
      rw [e]; exact hm
    · unfold zOf updZ at hz2
      by_cases e : z = (i : Int)
      · subst e; omega
      · rw [if_neg e] at hz2
        exact h.keys z hz (fun e2 => by rw [e2] at hz2; simp at hz2)
  · intro z hz
    by_cases e : z = (i : Int)
    · subst e
      rw [updZ_same, updZ_same]
      exact ho.sameAt fun k hk => hg.block k (ho.lt k hk).2 (by
        intro e; injection e with e; subst e
        rcases hvb k hk with h1 | h1
        · exact nb k h1 rfl
        · have := hlt k h.sp; omega)
    · rw [updZ_other _ _ _ _ e, updZ_other _ _ _ _ e]
      exact (h.r z hz).sameAt fun k hk => keep4 k (hlt k (h.sr z hz k hk).1) (h.sr z hz k hk).2.2.2 (fun e2 => h.ap z i hz hI e k hk e2)
  · intro z hz k hk
    by_cases e : z = (i : Int)
    · subst e
      rw [updZ_same] at hk
      have h4 := hv4 k hk
      rcases hvb k hk with h1 | h1
      · exact ⟨.inl (hFi k h1).1, (hFi k h1).2⟩
      · have := hlt m h.sm; have := hlt g h.sg; have := hlt bp h.sp
        exact ⟨.inr ⟨h1, h4⟩, by omega, by omega, by omega⟩
    · rw [updZ_other _ _ _ _ e] at hk
      have := h.sr z hz k hk
      exact ⟨.inl this.1, this.2⟩
  · intro y z hy hz hne k hk
    by_cases e : y = (i : Int)
    · subst e
      rw [updZ_same] at hk
      rw [updZ_other _ _ _ _ (Ne.symm hne)]
      rcases hvb k hk with h1 | h1
      · exact h.ap _ z hy hz hne k h1
      · intro e2
        have := hlt k (h.sr z hz k e2).1; omega
    · rw [updZ_other _ _ _ _ e] at hk
      by_cases e2 : z = (i : Int)
      · subst e2
        rw [updZ_same]
        intro e3
        rcases hvb k e3 with h1 | h1
        · exact h.ap y _ hy hz hne k hk h1
        · have := hlt k (h.sr y hy k hk).1; omega
      · rw [updZ_other _ _ _ _ e2]
        exact h.ap y z hy hz hne k hk
  · intro k hk
    rcases hk with h1 | h1
    · exact Nat.lt_of_lt_of_le (hlt k h1) hsz
    · exact h1.2
  · intro z hz hz2
    by_cases e : z = (i : Int)
    · subst e; omega
    · rw [updZ_other _ _ _ _ e] at hz2
      exact h.keys z hz hz2
  · intro z t ht
    by_cases e : z = (i : Int)
    · rw [e, updZ_same] at ht
      rcases List.mem_append.1 ht with h1 | h1
      · exact h.zv _ t h1
      · rw [List.mem_singleton.1 h1]; exact hs
    · rw [updZ_other _ _ _ _ e] at ht
      exact h.zv z t ht
theorem write_dead {w : World} {S : Nat → Prop} {m g bp cap : Nat} {L : List ByteArray} {V : Int → List ByteArray} {F : Int → Value} (h : PBox w S m g bp cap true L V F) (n : Int) (s : ByteArray) :
    Calls Try.prog 10 #[.pointer (some ⟨m, 0, none⟩), .int .i64 n, .string s] w fun e w' => e = .returned (.int .i64 80) ∧ w = w' := by
  have c0 := h.c0
  clear h
  go_enter Try.func10, Try.ntmps10
  go_wp2
  go_ret
  exact ⟨rfl, rfl⟩
theorem write_range {w : World} {S : Nat → Prop} {m g bp cap : Nat} {L : List ByteArray} {V : Int → List ByteArray} {F : Int → Value} (h : PBox w S m g bp cap false L V F) (n : Int) (s : ByteArray) (hn : hasN L n = false ∨ s.size ≠ 128) :
    Calls Try.prog 10 #[.pointer (some ⟨m, 0, none⟩), .int .i64 n, .string s] w fun e w' => e = .returned (.int .i64 81) ∧ w = w' := by
  have c0 := h.c0
  have ch := has_any h n
  by_cases h1 : hasN L n = false
  · rw [h1] at ch
    clear h h1 hn
    go_enter Try.func10, Try.ntmps10
    go_wp2_with (fail)
    refine ch.mono ?_
    rintro e w' ⟨rfl, rfl⟩
    go_wp2
    go_ret
    exact ⟨rfl, rfl⟩
  · rw [Bool.not_eq_false] at h1
    have h2 := hn.resolve_left (by rw [h1]; simp)
    rw [h1] at ch
    have t1 : ((s.size : Int) != 128) = true := by rw [bne_iff_ne]; omega
    have t2 : ((s.size : Int) == 128) = false := by rw [beq_eq_false_iff_ne]; omega
    clear h h1 hn h2
    go_enter Try.func10, Try.ntmps10
    go_wp2_with (fail)
    refine ch.mono ?_
    rintro e w' ⟨rfl, rfl⟩
    go_wp2
    go_ret
    exact ⟨rfl, rfl⟩
end Go.Proofs.Ytofhmdbilhdblaa

