/- rack: New. -/
import Derived.Test.YtofhmdbilhdblaaRackOps
namespace Go.Proofs.Ytofhmdbilhdblaa
open Go.RowKit
set_option linter.unusedVariables false
set_option linter.unusedSimpArgs false
set_option maxRecDepth 100000

theorem slot_is : ∃ i, Try.prog.info? 92 = some i ∧ i.zero = some (.agg #[.pointer none]) ∧ i.size = 1 ∧ i.bytes = 8 := (cont_gen (P := Try.prog) (t := 92) (c := .agg #[.pointer none]) (n := 1) (k := 8) (by kernel_rfl)).2
/-- A rack that is being made. -/
structure NB (w : World) (k j : Nat) (sv : Value) (Λ : RLay) (s : Nat) : Prop where
  b : w.heap[k]? = some (.cells #[sv, .bool false, .int .i64 0, .int .i64 0] 90 (0, 0))
  l : Own w (k + 1) 92 sv (rowV j fun i => .pointer (some ⟨Λ.m i, 0, none⟩))
  p : ∀ i, i < j → PBox w (Λ.T i) (Λ.m i) (Λ.g i) (Λ.bp i) (Λ.cp i) false (List.replicate s zero128) noV (Λ.F i)
  dj : ∀ a c x, a < j → c < j → a ≠ c → Λ.T a x → ¬ Λ.T c x
  tk : ∀ i x, i < j → Λ.T i x → k < x ∧ sv.ownBlock ≠ some x
  kl : k < w.heap.size
section
variable {w w2 : World} {k j : Nat} {sv : Value} {Λ : RLay} {s : Nat}
theorem NB.c0 (h : NB w k j sv Λ s) : w.cell? ⟨k, 0, none⟩ = some sv := by simp [World.cell?, h.b]
theorem NB.after (h : NB w k j sv Λ s) (hb : Below w.heap.size w w2) : NB w2 k j sv Λ s :=
  ⟨(hb.block k h.kl).trans h.b, h.l.after hb, fun i hi => (h.p i hi).below hb, h.dj, h.tk, Nat.lt_of_lt_of_le h.kl hb.size⟩
theorem NB.push (h : NB w k j sv Λ s) (hb : Below w.heap.size w w2) (hj : j ≤ 7) {S' : Nat → Prop} {m g bp cp : Nat} {F : Int → Value} (hP : PBox w2 S' m g bp cp false (List.replicate s zero128) noV F) (hS : ∀ x, S' x → w.heap.size ≤ x) :
    ∃ v' w3 Λ', (∃ a n c, v' = .slice a n c) ∧ (Builtin.append_ #[88, 88] 88 #[sv, .slice (some ⟨w2.heap.size, 0, none⟩) 1 1]).run Try.prog (w2.alloc (.cells #[.pointer (some ⟨m, 0, none⟩)] 92)) = .ok v' w3 ∧
      w3.cell? ⟨k, 0, none⟩ = some sv ∧ w3.frozen? ⟨k, 0, none⟩ = false ∧ NB (w3.setCell ⟨k, 0, none⟩ v') k (j + 1) v' Λ' s ∧ Below k w2 (w3.setCell ⟨k, 0, none⟩ v') := by
  obtain ⟨si, s1, s2, s3, s4⟩ := slot_is
  have h2 := h.after hb
  obtain ⟨v', w3, hap, ho, hb3, hk, hv⟩ := Own.pushA (P := Try.prog) (T := 88) Try.underlying88 s1 s2 s3 s4 rfl h2.l (.pointer (some ⟨m, 0, none⟩)) rfl h2.kl (by rw [rowV_len]; omega) (by rw [rowV_len]; omega)
  obtain ⟨gv, cv, ev, _, _⟩ := ho.form (by simp)
  have kb : w3.heap[k]? = some (.cells #[sv, .bool false, .int .i64 0, .int .i64 0] 90 (0, 0)) := (hb3.block k (by omega)).trans h2.b
  have k5 : ∀ x, x ≠ k → (w3.setCell ⟨k, 0, none⟩ v').heap[x]? = w3.heap[x]? := fun x hx => Below.heap_setCell _ _ _ _ hx
  have vnew : ∀ x, v'.ownBlock = some x → sv.ownBlock = some x ∨ x = w2.heap.size + 1 := fun x e => by
    rcases hv with z | z
    · exact .inl (by rw [← z]; exact e)
    · rw [z] at e; injection e with e; exact .inr e.symm
  have svn : ∀ x, S' x → sv.ownBlock ≠ some x := fun x hx e => by have := (h.l.o.lt x e).2; have := hS x hx; omega
  have hkw : k < w.heap.size := h.kl
  refine ⟨v', w3, { q := 0, cap := 0, T := upd Λ.T j S', m := upd Λ.m j m, g := upd Λ.g j g, bp := upd Λ.bp j bp, cp := upd Λ.cp j cp, F := upd Λ.F j F }, ⟨_, _, _, ev⟩, hap, by simp [World.cell?, kb], by simp [World.frozen?, kb], ⟨?_, ?_, fun i hi => ?_, fun a c x ha hc hne hx => ?_, fun i x hi hx => ?_, ?_⟩, (hb3.mono (Nat.le_succ k)).setCell (p := ⟨k, 0, none⟩) (Nat.le_refl k) v'⟩
  · simp [World.setCell, Array.getElem?_modify, kb]
  · have e : rowV j (fun i => Value.pointer (some ⟨Λ.m i, 0, none⟩)) ++ [.pointer (some ⟨m, 0, none⟩)] = rowV (j + 1) fun i => .pointer (some ⟨upd Λ.m j m i, 0, none⟩) := by
      unfold rowV
      rw [List.range_succ, List.map_append]
      congr 1
      · apply List.map_congr_left
        intro i hi
        have := List.mem_range.1 hi
        rw [upd_other _ _ _ _ (by omega)]
      · simp [upd]
    rw [e] at ho
    exact ho.sameAt fun x hx => k5 x (by have := (ho.o.lt x hx).1; omega)
  · by_cases e : i = j
    · subst e
      simp only [upd_same]
      exact hP.heap (fun x hx => (k5 x (by have := hS x hx; omega)).trans (hk x (hP.lt x hx) (svn x hx))) (by have := hb3.size; simp; omega)
    · simp only [upd_other _ _ _ _ e]
      have hp2 := h2.p i (by omega)
      exact hp2.heap (fun x hx => (k5 x (by have := (h.tk i x (by omega) hx).1; omega)).trans (hk x (hp2.lt x hx) (h.tk i x (by omega) hx).2)) (by have := hb3.size; simp; omega)
  · have told : ∀ i x, i < j → Λ.T i x → x < w.heap.size := fun i x hi hx => (h.p i hi).lt x hx
    by_cases e : a = j
    · subst e
      simp only [upd_same] at hx
      simp only [upd_other _ _ _ _ (Ne.symm hne)]
      exact fun z => by have := told c x (by omega) z; have := hS x hx; omega
    · simp only [upd_other _ _ _ _ e] at hx
      by_cases e2 : c = j
      · subst e2
        simp only [upd_same]
        exact fun z => by have := told a x (by omega) hx; have := hS x z; omega
      · simp only [upd_other _ _ _ _ e2]
        exact h.dj a c x (by omega) (by omega) hne hx
  · by_cases e : i = j
    · subst e
      simp only [upd_same] at hx
      refine ⟨by have := hS x hx; omega, fun z => ?_⟩
      rcases vnew x z with q | q
      · exact svn x hx q
      · have := hP.lt x hx; omega
    · simp only [upd_other _ _ _ _ e] at hx
      refine ⟨(h.tk i x (by omega) hx).1, fun z => ?_⟩
      rcases vnew x z with q | q
      · exact (h.tk i x (by omega) hx).2 q
      · have := (h2.p i (by omega)).lt x hx; omega
  · have := hb3.size; have := h2.kl; simp; omega
theorem NB.done (h : NB w k j sv Λ s) (h1 : 1 ≤ j) (h7 : j ≤ 7) : ∃ S Λ', (∀ x, S x → k ≤ x) ∧ RBox w S k j Λ' (fun _ => ⟨false, List.replicate s zero128, noV⟩) false 0 0 := by
  obtain ⟨q, cap, rfl, hq1, hq2⟩ := h.l.form (by rw [rowV_len]; omega)
  have hl := h.l
  rw [rowV_len] at hl
  have hb := h.b
  rw [rowV_len] at hb
  refine ⟨fun x => x = k ∨ x = q ∨ ∃ i, i < j ∧ Λ.T i x, { Λ with q := q, cap := cap }, ?_, ⟨hb, hl.mono (Nat.zero_le _), h.p, h.dj, fun i x hi hx => ⟨.inr (.inr ⟨i, hi, hx⟩), by have := (h.tk i x hi hx).1; omega, fun e => (h.tk i x hi hx).2 (by rw [e]; rfl)⟩, .inl rfl, .inr (.inl rfl), by show k ≠ q; omega, ?_, h1, h7⟩⟩
  · rintro x (rfl | rfl | ⟨i, hi, hx⟩)
    · exact Nat.le_refl _
    · omega
    · have := (h.tk i x hi hx).1; omega
  · rintro x (rfl | rfl | ⟨i, hi, hx⟩)
    · exact h.kl
    · exact hq2
    · exact (h.p i hi).lt x hx
end
set_option maxHeartbeats 2000000 in
theorem rs_new (n s : Nat) (w : World) (h1 : 1 ≤ n) (h7 : n ≤ 7) (hs1 : 1 ≤ s) (hs2 : s ≤ 256) :
    Calls Try.prog 38 #[.int .i64 (n : Int), .int .i64 (s : Int)] w fun e w' => ∃ S k, e = .returned (.tuple #[.pointer (some ⟨k, 0, none⟩), .int .i64 0]) ∧ RS w S w' k n (fun _ => ⟨false, List.replicate s zero128, noV⟩) false 0 0 := by
  have t1 : decide ((n : Int) < 1) = false := decide_eq_false (by omega)
  have t2 : decide ((7 : Int) < (n : Int)) = false := decide_eq_false (by omega)
  have cN := fun W => newm_any s W hs1 hs2
  obtain ⟨k, hk⟩ : ∃ k, w.heap.size = k := ⟨_, rfl⟩
  have hb0 : Below w.heap.size w (w.alloc (.cells #[.slice none 0 0, .bool false, .int .i64 0, .int .i64 0] 90)) := (Below.refl _ _).alloc (Nat.le_refl _) _
  have h0 : NB (w.alloc (.cells #[.slice none 0 0, .bool false, .int .i64 0, .int .i64 0] 90)) k 0 (.slice none 0 0) ⟨0, 0, fun _ _ => False, fun _ => 0, fun _ => 0, fun _ => 0, fun _ => 0, fun _ => noF⟩ s :=
    ⟨by rw [← hk]; exact heap_alloc_new _ _, Own.nil _ _ _, fun i hi => absurd hi (Nat.not_lt_zero _), fun a c x ha => absurd ha (Nat.not_lt_zero _), fun i x hi => absurd hi (Nat.not_lt_zero _), by simp; omega⟩
  have hkH := Lib.hid hk
  go_enter Try.func38, Try.ntmps38
  go_wp2_with (fail)
  go_loopw [18] (fun t wr => ∃ (j : Nat) (sv : Value) (Λ : RLay), j ≤ n ∧ t = .int .i64 (j : Int) ∧ Below w.heap.size w wr ∧ NB wr k j sv Λ s) (fun t _ => n - (intOf t).toNat)
  case atStart => exact ⟨0, _, _, by omega, rfl, hb0, h0⟩
  case round =>
    clear hb0 h0
    obtain ⟨j, sv, Λ, hj, rfl, hb, hB⟩ := hrel
    by_cases hlt : j < n
    · have j1 : (j : Int) < (n : Int) := by omega
      have j2 : (j : Int) + 1 ≤ 8 := by omega
      go_wp2_with (fail)
      refine (cN _).mono ?_
      rintro e w2 ⟨S', m, g, bp, cp, rfl, hb2, hS2, hP⟩
      obtain ⟨_, w3, Λ', ⟨pa, pn, pc, rfl⟩, hap, c3, f3, hB3, hb3⟩ := hB.push hb2 (by omega) hP hS2
      have c0 := (hB.after hb2).c0
      have hrel2 := Lib.hid (And.intro (hb.trans ((hb2.mono hb.size).trans (hb3.mono (by rw [hkH.out]; exact Nat.le_refl _)))) hB3)
      clear hB hb hb2 hP hS2 hB3 hb3
      go_wp2_with (at_builtin; refine wpList_append_run hap _ _ rfl rfl rfl rfl rfl ?_)
      go_roundw
      case rel => exact ⟨j + 1, _, Λ', by omega, by go_num, hrel2.out⟩
      case measure => simp [intOf]; omega
    · obtain rfl : j = n := by omega
      obtain ⟨S, Λ', hS, hR⟩ := hB.done h1 h7
      have hfin : Hid (RS w S wr k j (fun _ => ⟨false, List.replicate s zero128, noV⟩) false 0 0) := Lib.hid ⟨hb, fun x hx => by rw [hkH.out]; exact hS x hx, Λ', hR⟩
      clear hB hb hR hS hlt
      go_wp2_with (fail)
      go_ret2
      exact ⟨S, k, rfl, hfin.out⟩
end Go.Proofs.Ytofhmdbilhdblaa

