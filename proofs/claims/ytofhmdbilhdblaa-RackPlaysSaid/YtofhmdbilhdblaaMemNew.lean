/- member: New. -/
import Derived.Test.YtofhmdbilhdblaaMemWrite
namespace Go.Proofs.Ytofhmdbilhdblaa
open Go.RowKit
set_option linter.unusedVariables false
set_option linter.unusedSimpArgs false

theorem made_all (n : Nat) (s : ByteArray) : (madeCells (contL s).toArray (n * 128)).toList = EC.all (List.replicate n s) := by
  apply List.ext_getElem?
  intro j
  have hl := EC.all_len (List.replicate n s)
  rw [List.length_replicate, ec_k] at hl
  by_cases h : j < n * 128
  · have h1 : j / 128 < n := Nat.div_lt_of_lt_mul (by omega)
    have h2 : j % 128 < 128 := Nat.mod_lt _ (by omega)
    have := EC.all_get (List.replicate n s) (j / 128) (by simpa using h1) (j % 128) h2
    rw [ec_k, show j / 128 * 128 + j % 128 = j by omega, List.getElem_replicate, ec_f] at this
    rw [this]
    have hlen := contL_len s
    simp [madeCells, h, hlen, h2]
  · rw [List.getElem?_eq_none (by rw [Array.length_toList, size_madeCells]; omega), List.getElem?_eq_none (by rw [hl]; omega)]
def noV : Int → List ByteArray := fun _ => []
def noF : Int → Value := fun _ => nilS
/-- A new member. -/
def MakesM (w : World) (n : Nat) (e : Ending) (w' : World) : Prop :=
  ∃ S m g bp cap, e = .returned (.tuple #[.pointer (some ⟨m, 0, none⟩), .int .i64 0]) ∧ Below w.heap.size w w' ∧ (∀ k, S k → w.heap.size ≤ k) ∧ PBox w' S m g bp cap false (List.replicate n zero128) noV noF
theorem newm_bad (n : Int) (w : World) (h : n < 1 ∨ 256 < n) : Calls Try.prog 7 #[.int .i64 n] w fun e w' => e = .returned (.tuple #[.pointer none, .int .i64 1]) ∧ w = w' := by
  by_cases h1 : n < 1
  · have t1 : decide (n < 1) = true := decide_eq_true h1
    clear h h1
    go_enter Try.func7, Try.ntmps7
    go_wp2
    go_ret2
    exact ⟨rfl, rfl⟩
  · have t1 : decide (n < 1) = false := decide_eq_false h1
    have t2 : decide (256 < n) = true := decide_eq_true (by omega)
    clear h h1
    go_enter Try.func7, Try.ntmps7
    go_wp2
    go_ret2
    exact ⟨rfl, rfl⟩
set_option maxRecDepth 100000 in
theorem newm_any (n : Nat) (w : World) (h1 : 1 ≤ n) (h2 : n ≤ 256) : Calls Try.prog 7 #[.int .i64 (n : Int)] w (MakesM w n) := by
  obtain ⟨ci, k1, k2, k3, k4⟩ := cont_is
  obtain ⟨w1, hmk, ho, hg⟩ := run_makeSlice_full (P := Try.prog) w 0 71 80 ci _ 128 Try.underlying71 k1 k2 k3 .i64 .i64 n (by omega) (by rw [k4]; omega) (by unfold maxLen; omega) (Nat.zero_le _)
  have hcz : (Value.agg (contL zero128).toArray).cells = (contL zero128).toArray := rfl
  rw [hcz, made_all] at ho
  have hO : OwnE EC w1 0 80 (.slice (some ⟨w.heap.size, 0, none⟩) n n) (List.replicate n zero128) := ⟨by rw [List.length_replicate]; exact ho⟩
  have hlt : w.heap.size < w1.heap.size := (hO.lt w.heap.size rfl).2
  have hb1 : Below w.heap.size w w1 := (Below.refl _ _).grown hg (Nat.le_refl _) (fun k hk => by cases hk)
  obtain ⟨g, hgg⟩ : ∃ g, w.heap.size = g := ⟨_, rfl⟩
  rw [hgg] at hO
  obtain ⟨q, hq⟩ : ∃ q, w1.heap.size = q := ⟨_, rfl⟩
  have hfin : Hid (MakesM w n (.returned (.tuple #[.pointer (some ⟨q + 1, 0, none⟩), .int .i64 0])) ((w1.alloc (.map #[] 0)).alloc (.cells #[.bool false, .slice (some ⟨g, 0, none⟩) n n, .map (some q)] 74))) := by
    refine Lib.hid ⟨fun k => k = g ∨ k = q ∨ k = q + 1, q + 1, g, q, n, rfl, (hb1.alloc (by omega) _).alloc (by simp; omega) _, ?_, ?_⟩
    · rintro k (rfl | rfl | rfl) <;> omega
    · have b2 : Below w1.heap.size w1 ((w1.alloc (.map #[] 0)).alloc (.cells #[.bool false, .slice (some ⟨g, 0, none⟩) n n, .map (some q)] 74)) := ((Below.refl _ _).alloc (Nat.le_refl _) _).alloc (by simp) _
      have hm := MapZ.made w1 Try.prog 3 nilS
      rw [hq] at hm
      refine ⟨?_, ?_, ?_, fun z hz => OwnE.nil _ _ _ _, .inr (.inr rfl), .inl rfl, .inr (.inl rfl), fun z hz k hk => (by cases hk), fun y z _ _ _ => Apart.nil _, by omega, by omega, by omega, ?_, fun z hz h => absurd rfl h, by rw [List.length_replicate]; exact h1, by rw [List.length_replicate]; exact h2, fun s hs => ?_, fun z s hs => (by cases hs)⟩
      · have e : (w1.alloc (.map #[] 0)).heap.size = q + 1 := by simp [hq]
        rw [← e, List.length_replicate]; exact heap_alloc_new _ _
      · rw [List.length_replicate]
        exact hO.after b2
      · rw [List.length_replicate]
        exact (hm.heap (Below.heap_alloc _ _ q (by simp [hq]))).mono (Nat.zero_le _)
      · rintro k (rfl | rfl | rfl) <;> simp <;> omega
      · rw [List.eq_of_mem_replicate hs]; exact zero128_size
  have t1 : decide ((n : Int) < 1) = false := by rw [decide_eq_false_iff_not]; omega
  have t2 : decide ((256 : Int) < (n : Int)) = false := by rw [decide_eq_false_iff_not]; omega
  rw [hgg] at hmk
  have hmm : (Instr.makeMap 72 none).run Try.prog w1 = .ok (.map (some q)) (w1.alloc (.map #[] 0)) := by rw [← hq]; rfl
  have hq2 : (w1.alloc (.map #[] 0)).heap.size = q + 1 := by simp [hq]
  clear ho hO hb1 hg hgg hlt h1 h2 k1 k2 k3 k4 hcz
  go_enter Try.func7, Try.ntmps7
  go_wp2_with (fail)
  go_ret2
  exact hfin.out
end Go.Proofs.Ytofhmdbilhdblaa

