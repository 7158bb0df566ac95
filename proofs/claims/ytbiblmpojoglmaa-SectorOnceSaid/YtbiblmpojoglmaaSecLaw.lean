/- sector's laws: what they lean on. -/
import Derived.Test.YtbiblmpojoglmaaSecOpen
namespace Go.Proofs.Ytbiblmpojoglmaa
open Go.RowKit
set_option linter.unusedVariables false
set_option linter.unusedSimpArgs false


/-- Which of n things a raw number speaks of. -/
def pk (c n : Int) : Int := (if c < 0 then -(c + 1) else c) % n
theorem pk_rng (c n : Int) (h : 1 ≤ n) : 0 ≤ pk c n ∧ pk c n < n := by
  unfold pk; exact ⟨Int.emod_nonneg _ (by omega), Int.emod_lt_of_pos _ (by omega)⟩
theorem pick_any (c n : Int) (w : World) (h1 : -9223372036854775808 ≤ c) (h2 : c ≤ 9223372036854775807) (h3 : 1 ≤ n) (h4 : n ≤ 9223372036854775807) :
    Calls Try.prog 15 #[.int .i64 c, .int .i64 n] w fun e w' => e = .returned (.int .i64 (pk c n)) ∧ w = w' := by
  by_cases hc : c < 0
  · have hp : Hid (pk c n = -((c + 1).tmod n)) := Lib.hid (by unfold pk; rw [if_pos hc, ← Int.neg_tmod, Int.tmod_eq_emod_of_nonneg (by omega)])
    go_enter Try.func15, Try.ntmps15
    go_wp2
    go_ret
    exact ⟨by rw [hp.out]; rfl, rfl⟩
  · have hp : Hid (pk c n = c % n) := Lib.hid (by unfold pk; rw [if_neg hc])
    go_enter Try.func15, Try.ntmps15
    go_wp2
    go_ret
    exact ⟨by rw [hp.out]; rfl, rfl⟩

theorem pick_nat (n m : Int) (h1 : -9223372036854775808 ≤ n) (h2 : n ≤ 9223372036854775807) (h3 : 1 ≤ m) (h4 : m ≤ 100000) :
    ∃ p : Nat, (p : Int) < m ∧ pk n m = (p : Int) ∧ ∀ w, Calls Try.prog 15 #[.int .i64 n, .int .i64 m] w fun e w' => e = .returned (.int .i64 (p : Int)) ∧ w = w' := by
  have hr := pk_rng n m h3
  obtain ⟨p, hp⟩ := Int.eq_ofNat_of_zero_le hr.1
  refine ⟨p, by omega, hp, fun w => ?_⟩
  rw [← hp]
  exact pick_any n m w h1 h2 h3 (by omega)
theorem slice_run2 {P : Program} {T : TypeId} (hT : P.underlying T = some .string) (s : ByteArray) (a b : Nat) (h1 : a ≤ b) (h2 : b ≤ s.size) (W : World) :
    (Instr.slice T (.string s) (some (.int .i64 (a : Int))) (some (.int .i64 (b : Int))) none).run P W = .ok (.string (s.extract a b)) W := by
  simp [Instr.slice, run_underlying hT, Instr.sliceBounds, Instr.sliceBound, asIntOf, h1, h2]
/-- What opens a sealed sector. -/
theorem open_sealed {i l a : Nat} {q : ByteArray} (h1 : 1 ≤ i) (h2 : i ≤ 65535) (h3 : l ≤ 6) (h4 : a ≤ 255) (h5 : q.size ≤ 120) (d m t : Int) :
    openOk d m t (secS i l a q) = decide (d = (i : Int) ∧ m = (l : Int) ∧ t = (a : Int)) ∧ (secS i l a q).extract 0 120 = padB q 120 ∧ (secS i l a q).size = 128 := by
  have hq : q.data.toList.length ≤ 120 := by simpa using h5
  have hsz : (secS i l a q).size = 128 := by rw [secS, lineOf_size, Sec.sec_length _ _ _ hq]
  have hcut : (secS i l a q).extract 0 120 = padB q 120 := by
    apply Go.WideShapes.bytes_inj
    rw [padB, list_lineOf, ← Sec.sec_take i l a hq, secS]
    simp [lineOf, ByteArray.data_extract]
  refine ⟨?_, hcut, hsz⟩
  rw [openOk, decide_eq_true hsz, Bool.true_and, hcut]
  have hp : (padB q 120).size = 120 := by rw [padB, lineOf_size, Pk.pad_length hq]
  rw [Bool.eq_iff_iff, Bool.and_eq_true, eqS_iff, decide_eq_true_eq]
  constructor
  · rintro ⟨h, he⟩
    have h' := h
    unfold sealOk at h'; rw [decide_eq_true_eq] at h'
    rw [sealL, if_pos h, secS, secS] at he
    have he2 := congrArg (fun b => b.data.toList) he
    simp only [list_lineOf] at he2
    rw [show (padB q 120).data.toList = Pk.padL q.data.toList 120 by rw [padB, list_lineOf], Sec.sec_pad _ _ _ hq, Sec.sec_inj hq hq (by omega) (by omega) (by omega) (by omega) (by omega) (by omega)] at he2
    omega
  · rintro ⟨rfl, rfl, rfl⟩
    have hb : sealOk (i : Int) (l : Int) (a : Int) (padB q 120) = true := by unfold sealOk; rw [decide_eq_true_eq]; omega
    refine ⟨hb, ?_⟩
    rw [sealL, if_pos hb, secS, secS]
    rw [show (padB q 120).data.toList = Pk.padL q.data.toList 120 by rw [padB, list_lineOf], show ((i : Int)).toNat = i by omega, show ((l : Int)).toNat = l by omega, show ((a : Int)).toNat = a by omega, Sec.sec_pad _ _ _ hq]
set_option maxRecDepth 100000 in
theorem aw_facts : sealE 1 0 3 ⟨#[97]⟩ = 0 ∧ sealL 1 0 3 ⟨#[97]⟩ = secS 1 0 3 ⟨#[97]⟩ ∧ ((secS 1 0 3 ⟨#[97]⟩).extract 120 124).toList = [0, 1, 0, 3] ∧ sealE 0 0 0 ⟨#[]⟩ = 60 := by decide +kernel
theorem aw_first (h : 0 < (secS 1 0 3 ⟨#[97]⟩).size) : (secS 1 0 3 ⟨#[97]⟩)[0] = 97 := rfl
set_option maxRecDepth 100000 in
theorem aw_pad (h : 0 < (padB ⟨#[97]⟩ 120).size) : (padB ⟨#[97]⟩ 120)[0] = 97 := rfl
set_option maxRecDepth 100000 in
set_option maxHeartbeats 1000000 in
theorem secawake_any (w : World) : Calls Try.prog 9 #[] w fun e w' => e = .returned (.bool true) ∧ Below w.heap.size w w' := by
  obtain ⟨f1, f2, f3, f4⟩ := aw_facts
  obtain ⟨o1, o2, o3⟩ := open_sealed (i := 1) (l := 0) (a := 3) (q := ⟨#[97]⟩) (by decide) (by decide) (by decide) (by decide) (by decide) 1 0 3
  obtain ⟨o4, _, _⟩ := open_sealed (i := 1) (l := 0) (a := 3) (q := ⟨#[97]⟩) (by decide) (by decide) (by decide) (by decide) (by decide) 1 0 4
  rw [show decide ((1 : Int) = ((1 : Nat) : Int) ∧ (0 : Int) = ((0 : Nat) : Int) ∧ (3 : Int) = ((3 : Nat) : Int)) = true from rfl] at o1
  rw [show decide ((1 : Int) = ((1 : Nat) : Int) ∧ (0 : Int) = ((0 : Nat) : Int) ∧ (4 : Int) = ((3 : Nat) : Int)) = false from rfl] at o4
  have c1 := fun W => seal_any 1 0 3 ⟨#[97]⟩ W (by decide)
  have c2 := fun W h => open_any 1 0 3 (secS 1 0 3 ⟨#[97]⟩) W h
  have c3 := fun W h => open_any 1 0 4 (secS 1 0 3 ⟨#[97]⟩) W h
  have c4 := fun W => seal_any 0 0 0 ⟨#[]⟩ W (by decide)
  rw [f1, f2] at c1
  rw [openS, o1, if_pos rfl, o2] at c2
  rw [o4] at c3
  rw [f4] at c4
  have l0 : 0 < (secS 1 0 3 ⟨#[97]⟩).size := by rw [o3]; decide
  have a1 := aw_first l0
  have z2 : (padB ⟨#[97]⟩ 120).size = 120 := by rw [padB, lineOf_size]; rfl
  have l4 : 0 < (padB ⟨#[97]⟩ 120).size := by rw [z2]; decide
  have a2 := aw_pad l4
  have e1 : (((((secS 1 0 3 ⟨#[97]⟩).size : Nat) : Int)) != 128) = false := by rw [o3]; rfl
  have e2 : (((((padB ⟨#[97]⟩ 120).size : Nat) : Int)) == 120) = true := by rw [z2]; rfl
  have hcut := fun W => slice_run2 (P := Try.prog) (T := 9) Try.underlying9 (secS 1 0 3 ⟨#[97]⟩) 120 124 (by decide) (by rw [o3]; decide) W
  rw [show ((120 : Nat) : Int) = 120 from rfl, show ((124 : Nat) : Int) = 124 from rfl] at hcut
  have e3 : (((secS 1 0 3 ⟨#[97]⟩).extract 120 124).toList == [0, 1, 0, 3]) = true := by rw [f3]; rfl
  have l1 : 128 ≤ (secS 1 0 3 ⟨#[97]⟩).size := by omega
  have l2 : (secS 1 0 3 ⟨#[97]⟩).size ≤ 128 := by omega
  have l3 : 120 ≤ (padB ⟨#[97]⟩ 120).size := by omega
  clear f1 f2 f3 f4 o1 o2 o3 o4 z2
  generalize sealL 0 0 0 ⟨#[]⟩ = x0 at *
  generalize openS 1 0 4 (secS 1 0 3 ⟨#[97]⟩) = x1 at *
  generalize (secS 1 0 3 ⟨#[97]⟩).extract 120 124 = x2 at *
  generalize secS 1 0 3 ⟨#[97]⟩ = s at *
  generalize padB ⟨#[97]⟩ 120 = p at *
  go_enter Try.func9, Try.ntmps9
  go_wp2_with (fail)
  refine (c1 _).mono ?_
  rintro e w1 ⟨rfl, b1⟩
  go_wp2_with (fail)
  refine (c2 _ (by omega)).mono ?_
  rintro e w2 ⟨rfl, b2⟩
  go_wp2_with (fail)
  refine (c3 _ (by omega)).mono ?_
  rintro e w3 ⟨rfl, b3⟩
  go_wp2_with (fail)
  refine (c4 _).mono ?_
  rintro e w4 ⟨rfl, b4⟩
  go_wp2_with (fail)
  go_ret
  exact ⟨rfl, below_c' (below_c' (below_c' b1 b2) b3) b4⟩
end Go.Proofs.Ytbiblmpojoglmaa
