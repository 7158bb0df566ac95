/- the document's member: New, Write. -/
import Derived.Test.YtofhmdbilhdblaaMemQ1
namespace Go.Proofs.Ytofhmdbilhdblaa
open Go.RowKit
set_option linter.unusedVariables false
set_option linter.unusedSimpArgs false
set_option maxRecDepth 100000

theorem qsec_is : ∃ i, Try.prog.info? 83 = some i ∧ i.zero = some (.agg #[.string ⟨#[]⟩, .slice none 0 0]) ∧ i.size = sE.k ∧ i.bytes = 40 :=
  (cont_gen (P := Try.prog) (t := 83) (c := .agg #[.string ⟨#[]⟩, .slice none 0 0]) (n := 2) (k := 40) (by kernel_rfl)).2
theorem qstr_is : ∃ i, Try.prog.info? 9 = some i ∧ i.zero = some (.string ⟨#[]⟩) ∧ i.size = 1 ∧ i.bytes = 16 := (cont_gen (P := Try.prog) (t := 9) (c := .string ⟨#[]⟩) (n := 1) (k := 16) (by kernel_rfl)).2
theorem qL_rep (n : Nat) : qL (List.replicate n zero128) (fun _ => nilS) = List.replicate n (zero128, nilS) := by
  unfold qL
  apply List.ext_getElem?
  intro j
  by_cases hj : j < n
  · simp [hj, List.getElem?_replicate]
  · simp [hj, List.getElem?_replicate]
/-- Blank sectors. -/
def GivesB (w : World) (n : Nat) (e : Ending) (w' : World) : Prop := ∃ v, e = .returned v ∧ Below w.heap.size w w' ∧ OwnE sE w' w.heap.size 83 v (List.replicate n (zero128, nilS))
set_option maxHeartbeats 1000000 in
theorem qblank_any (n : Nat) (w : World) (h2 : n ≤ 256) : Calls Try.prog 64 #[.int .i64 (n : Int)] w (GivesB w n) := by
  obtain ⟨si, s1, s2, s3, s4⟩ := qsec_is
  go_enter Try.func64, Try.ntmps64
  go_wp2_with (fail)
  go_loopw [4, 3] (fun t vx wr => ∃ (k : Nat) (u : Value), u = vx ∧ k ≤ n ∧ t = .int .i64 (k : Int) ∧ Below w.heap.size w wr ∧ OwnE sE wr w.heap.size 83 u (List.replicate k (zero128, nilS))) (fun t _ _ => n - (intOf t).toNat)
  case atStart => exact ⟨0, _, rfl, by omega, rfl, Below.refl _ _, OwnE.nil _ _ _ _⟩
  case round =>
    obtain ⟨k, u, rfl, hk, rfl, hB, hO⟩ := hrel
    by_cases hlt : k < n
    · have k1 : (k : Int) < (n : Int) := by omega
      obtain ⟨w1, hmk, hr, hb, hsz⟩ := BRow.make_run wr 128 (by omega)
      replace hmk : (Instr.makeSlice 81 (.int .i64 128) (.int .i64 128)).run Try.prog wr = .ok (.slice (some ⟨wr.heap.size, 0, none⟩) 128 128) w1 := hmk
      have hst := hr.str 128 128 (by simp)
      have ez : lineOf (List.replicate 128 0) = zero128 := rfl
      rw [ez] at hst
      have hO1 := hO.after hb
      have hB1 := hB.trans (hb.mono hB.size)
      obtain ⟨v', w2, hap, hO2, hb2, _⟩ := OwnE.push (P := Try.prog) (S := 75) Try.underlying75 s1 s2 s3 s4 rfl hO1 (zero128, nilS) #[.string zero128, .slice none 0 0] rfl hB1.size (by simp; omega) (by simp; omega)
      have hB2 := hB1.trans hb2
      have hrep : List.replicate k (zero128, nilS) ++ [(zero128, nilS)] = List.replicate (k + 1) (zero128, nilS) := by rw [List.replicate_succ']
      rw [hrep] at hO2
      clear hO hO1 hB hB1 hr hb hb2 ez hrep s1 s2 s3 s4 hsz
      generalize zero128 = zz at *
      go_wp2_with (at_builtin; refine wpList_append_run hap _ _ rfl rfl rfl rfl rfl ?_)
      go_roundw
      case rel => exact ⟨k + 1, _, rfl, by omega, by go_num, hB2, hO2⟩
      case measure => simp [intOf]; omega
    · obtain rfl : k = n := by omega
      go_wp2_with (fail)
      go_ret
      exact ⟨_, rfl, hB, hO⟩
/-- What the document's New makes. -/
structure QS (w : World) (S : Nat → Prop) (w' : World) (m : Nat) (fd : Bool) (L : List ByteArray) (V : Int → List ByteArray) : Prop where
  b : Below w.heap.size w w'
  h : ∃ q cap F, (∀ k, S k → w.heap.size ≤ k) ∧ QBox w' S m q cap fd L V F
theorem qnew_bad (n : Int) (w : World) (h : n < 1 ∨ 256 < n) : Calls Try.prog 8 #[.int .i64 n] w fun e w' => e = .returned (.tuple #[.pointer none, .int .i64 1]) ∧ w = w' := by
  by_cases h1 : n < 1
  · have t1 : decide (n < 1) = true := decide_eq_true h1
    clear h h1
    go_enter Try.func8, Try.ntmps8
    go_wp2
    go_ret2
    exact ⟨rfl, rfl⟩
  · have t1 : decide (n < 1) = false := decide_eq_false h1
    have t2 : decide (256 < n) = true := decide_eq_true (by omega)
    clear h h1
    go_enter Try.func8, Try.ntmps8
    go_wp2
    go_ret2
    exact ⟨rfl, rfl⟩
theorem qnew_any (n : Nat) (w : World) (h1 : 1 ≤ n) (h2 : n ≤ 256) : Calls Try.prog 8 #[.int .i64 (n : Int)] w fun e w' => ∃ S m, e = .returned (.tuple #[.pointer (some ⟨m, 0, none⟩), .int .i64 0]) ∧ QS w S w' m false (List.replicate n zero128) noV := by
  have cb := qblank_any n w h2
  have t1 : decide ((n : Int) < 1) = false := decide_eq_false (by omega)
  have t2 : decide ((256 : Int) < (n : Int)) = false := decide_eq_false (by omega)
  go_enter Try.func8, Try.ntmps8
  go_wp2_with (fail)
  refine cb.mono ?_
  rintro e w1 ⟨v, rfl, hb, hO⟩
  obtain ⟨q, cap, hv, hq1, hq2⟩ := hO.form (by rw [List.length_replicate]; exact h1)
  rw [List.length_replicate] at hv
  subst hv
  have hfin : Hid (QS w (fun k => k = q ∨ k = w1.heap.size) (w1.alloc (.cells #[.slice (some ⟨q, 0, none⟩) n cap, .bool false] 78)) w1.heap.size false (List.replicate n zero128) noV) := by
    refine Lib.hid ⟨hb.trans ((Below.refl _ _).alloc hb.size _), q, cap, fun _ => nilS, ?_, ?_, ?_, fun i hi => Own.nil _ _ _, .inr rfl, .inl rfl, fun i hi k hk => (by cases hk), by omega, ?_, fun z hz => absurd rfl hz, by rw [List.length_replicate]; exact h1, by rw [List.length_replicate]; exact h2, fun s hs => ?_, fun z s hs => (by cases hs)⟩
    · rintro k (rfl | rfl)
      · exact hq1
      · exact hb.size
    · rw [List.length_replicate]; exact heap_alloc_new _ _
    · rw [List.length_replicate, qL_rep]
      exact (hO.alloc _).mono (Nat.zero_le _)
    · rintro k (rfl | rfl) <;> simp <;> omega
    · rw [List.eq_of_mem_replicate hs]; exact zero128_size
  clear hO hb h1 h2 hq1 hq2
  go_wp2_with (fail)
  go_ret2
  exact ⟨_, _, rfl, hfin.out⟩
/-- What a step leaves. -/
def QStep (w : World) (S : Nat → Prop) (m : Nat) (fd : Bool) (L : List ByteArray) (V : Int → List ByteArray) (w' : World) : Prop := ∃ S' q cap F, Stp S S' w w' ∧ QBox w' S' m q cap fd L V F
set_option maxHeartbeats 2000000 in
theorem qwrite_any {w : World} {S : Nat → Prop} {m q cap : Nat} {L : List ByteArray} {V : Int → List ByteArray} {F : Nat → Value} (h : QBox w S m q cap false L V F) (i : Nat) (hi : i < L.length) (s : ByteArray) (hs : s.size = 128) (hv : (V i).length ≤ 1000000000000) :
    Calls Try.prog 12 #[.pointer (some ⟨m, 0, none⟩), .int .i64 (i : Int), .string s] w fun e w' => e = .returned (.int .i64 0) ∧ QStep w S m false L (updZ V i (V i ++ [s])) w' := by
  obtain ⟨si, s1, s2, s3, s4⟩ := qstr_is
  have c0 := h.c0
  have c1 := h.c1
  have hl := h.len
  have hn2 := h.n2
  have q1 := h.s1 hi
  have d1 : decide ((i : Int) < 0) = false := decide_eq_false (by omega)
  have d2 : decide ((L.length : Int) ≤ (i : Int)) = false := decide_eq_false (by omega)
  have d3 : ((s.size : Int) != 128) = false := by rw [hs]; rfl
  have t1 : ¬ ((i : Int) < 0) := by omega
  have t2 : (i : Int) < (L.length : Int) := by omega
  obtain ⟨v1, w1, hap1, hO1, hb1⟩ := Reads.copy_run (P := Try.prog) (T := 47) Try.underlying47 s1 s2 s3 s4 rfl (h.r i hi).reads (fun x hx => by obtain ⟨b, _, rfl⟩ := List.mem_map.1 hx; rfl) (by rw [List.length_map]; omega) (by rw [List.length_map]; omega)
  have h1 := h.below hb1
  obtain ⟨v2, w2, hap2, hO2, hb2, _⟩ := Own.pushA (P := Try.prog) (T := 47) Try.underlying47 s1 s2 s3 s4 rfl hO1.drew (.string s) rfl hb1.size (by rw [List.length_map]; omega) (by rw [List.length_map]; omega)
  rw [show w1.drew.heap.size = w1.heap.size from rfl] at hap2
  obtain ⟨g2, p2, hv2, _, _⟩ := hO2.form (by simp)
  obtain ⟨l2, hl2⟩ : ∃ l2, ((V (i : Int)).map Value.string ++ [Value.string s]).length = l2 := ⟨_, rfl⟩
  rw [hl2] at hv2
  subst hv2
  clear hl2
  obtain ⟨v2, hv2⟩ : ∃ v2, Value.slice (some ⟨g2, 0, none⟩) l2 p2 = v2 := ⟨_, rfl⟩
  have h1d : QBox w1.drew S m q cap false L V F := h1.heap (fun _ _ => rfl) (Nat.le_refl _)
  have hb2' : Below w.heap.size w1.drew w2 := hb2
  have h2 : QBox w2 S m q cap false L V F := h1d.heap (fun k hk => hb2'.block k (h.lt k hk)) hb2'.size
  have c02 := h1d.c0
  have c03 := h2.c0
  have c05 := h1.c0
  have c04 := (h1.below ((Below.refl _ _).alloc (Nat.le_refl _) (.cells #[.string s] 9))).c0
  have cc := h2.s1 hi
  have ff := h2.sf (i * 2 + 1)
  have hqm := h.mq
  have hbw2 : Below w.heap.size w w2 := (hb1.trans (⟨rfl, rfl, rfl, Nat.le_refl _, fun _ _ => rfl⟩ : Below w.heap.size w1 w1.drew)).trans hb2'
  have k5 : ∀ k, k ≠ q → (w2.setCell ⟨q, i * 2 + 1, none⟩ v2).heap[k]? = w2.heap[k]? := fun k hk => Below.heap_setCell _ _ _ _ hk
  have k4 : (w2.setCell ⟨q, i * 2 + 1, none⟩ v2).heap.size = w2.heap.size := by simp
  rw [hv2] at hO2 hap2
  have hfin : Hid (QStep w S m false L (updZ V i (V i ++ [s])) (w2.setCell ⟨q, i * 2 + 1, none⟩ v2)) := by
    refine Lib.hid ⟨fun k => S k ∨ (w.heap.size ≤ k ∧ v2.ownBlock = some k), q, cap, upq F i v2, ⟨⟨hbw2.os, hbw2.tape, hbw2.output, by rw [k4]; exact hbw2.size, fun k hk => absurd hk (Nat.not_lt_zero _)⟩, fun k hk hn => ?_, fun k hk => hk.imp id And.left⟩, ⟨?_, ?_, fun j hj => ?_, .inl h.sm, .inl h.sq, fun j hj k hk => ?_, h.mq, fun k hk => ?_, fun z hz => ?_, h.n1, h.n2, h.zl, fun z t ht => ?_⟩⟩
    · rw [k5 k (fun e => hn (e ▸ h.sq))]; exact hbw2.block k hk
    · rw [k5 m h.mq]; exact h2.b
    · have := h2.l.setIn i (by rw [qL_len]; exact hi) 1 (by show 1 < 2; omega) v2 (L[i], v2) (by
        rw [qL_get _ _ _ _ hi]
        show [_, asQ (F i)].set 1 v2 = [_, asQ v2]
        rw [asQ_own hO2]; rfl)
      rw [qL_set L F i hi, List.set_getElem_self] at this
      exact this
    · by_cases e : j = i
      · subst e
        rw [upq_same]
        have e2 : updZ V (j : Int) (V j ++ [s]) (j : Int) = V j ++ [s] := by simp [updZ]
        rw [e2, List.map_append]
        exact (hO2.mono (Nat.zero_le _)).at_ fun k hk => k5 k (fun e => by have := (hO2.o.lt k hk).1; have := h.lt q h.sq; omega)
      · rw [upq_other _ _ _ _ e]
        have e2 : updZ V (i : Int) (V i ++ [s]) (j : Int) = V j := by simp [updZ]; intro e3; omega
        rw [e2]
        exact (h2.r j hj).at_ fun k hk => k5 k (h.sr j hj k hk).2.2
    · by_cases e : j = i
      · subst e
        rw [upq_same] at hk
        have := (hO2.o.lt k hk).1
        refine ⟨.inr ⟨this, hk⟩, fun e => ?_, fun e => ?_⟩
        · have := h.lt m h.sm; omega
        · have := h.lt q h.sq; omega
      · rw [upq_other _ _ _ _ e] at hk
        have := h.sr j hj k hk
        exact ⟨.inl this.1, this.2⟩
    · rw [k4]
      rcases hk with hk | hk
      · exact Nat.lt_of_lt_of_le (h.lt k hk) hbw2.size
      · exact (hO2.o.lt k hk.2).2
    · by_cases e : z = (i : Int)
      · subst e; omega
      · have e2 : updZ V (i : Int) (V i ++ [s]) z = V z := by simp [updZ, e]
        rw [e2] at hz; exact h.keys z hz
    · by_cases e : z = (i : Int)
      · subst e
        have e2 : updZ V (i : Int) (V i ++ [s]) (i : Int) = V i ++ [s] := by simp [updZ]
        rw [e2] at ht
        rcases List.mem_append.1 ht with x | x
        · exact h.zv _ t x
        · rw [List.mem_singleton.1 x]; exact hs
      · have e2 : updZ V (i : Int) (V i ++ [s]) z = V z := by simp [updZ, e]
        rw [e2] at ht; exact h.zv z t ht
  clear h h1 h1d h2 hO1 hO2 hb1 hb2 hb2' hbw2 k4 k5 s1 s2 s3 s4 hs hqm
  subst hv2
  go_enter Try.func12, Try.ntmps12
  go_wp2_with (at_builtin; refine wpList_append_run hap1 _ _ rfl rfl rfl rfl rfl ?_)
  go_region_law (refine step_append_runR hap2 _ _ rfl rfl rfl (by simp [Act.eval, Act.put]) (by simp [Act.eval, Act.put]) ?_)
  all_goals
    go_wp2_with (fail)
    go_ret
    exact ⟨rfl, hfin.out⟩
end Go.Proofs.Ytofhmdbilhdblaa
