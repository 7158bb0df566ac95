/- count's laws: what they lean on; the least block that is free is handed out. -/
import Derived.Test.YtbfdjlibhinkiaaCntWalk1
import Derived.Test.YtbfdjlibhinkiaaSl4
namespace Go.Proofs.Ytbfdjlibhinkiaa
open Go.RowKit
set_option linter.unusedVariables false
set_option linter.unusedSimpArgs false

/-- Which of n things a raw number speaks of. -/
def pk (c n : Int) : Int := (if c < 0 then -(c + 1) else c) % n
theorem pk_rng (c n : Int) (h : 1 ≤ n) : 0 ≤ pk c n ∧ pk c n < n := by
  unfold pk; exact ⟨Int.emod_nonneg _ (by omega), Int.emod_lt_of_pos _ (by omega)⟩
theorem pick_any (c n : Int) (w : World) (h1 : -9223372036854775808 ≤ c) (h2 : c ≤ 9223372036854775807) (h3 : 1 ≤ n) (h4 : n ≤ 9223372036854775807) :
    Calls Try.prog 11 #[.int .i64 c, .int .i64 n] w fun e w' => e = .returned (.int .i64 (pk c n)) ∧ w = w' := by
  by_cases hc : c < 0
  · have hp : Hid (pk c n = -((c + 1).tmod n)) := Lib.hid (by unfold pk; rw [if_pos hc, ← Int.neg_tmod, Int.tmod_eq_emod_of_nonneg (by omega)])
    go_enter Try.func11, Try.ntmps11
    go_wp2
    go_ret
    exact ⟨by rw [hp.out]; rfl, rfl⟩
  · have hp : Hid (pk c n = c % n) := Lib.hid (by unfold pk; rw [if_neg hc])
    go_enter Try.func11, Try.ntmps11
    go_wp2
    go_ret
    exact ⟨by rw [hp.out]; rfl, rfl⟩

theorem below_e {w0 w w' : World} (h : Below w0.heap.size w0 w) (hb : Below w.heap.size w w') : Below w0.heap.size w0 w' := h.trans (hb.mono h.size)
theorem Try.infoBl : (Try.prog.info? 4).map (fun i => (i.zero, i.size, i.bytes)) = some (some (.bool false), 1, 1) := by kernel_rfl
theorem Try.infoI : (Try.prog.info? 3).map (fun i => (i.zero, i.size, i.bytes)) = some (some (.int .i64 0), 1, 8) := by kernel_rfl
theorem used_cntK (t : Nat) : ∀ k, usedTo (cntK t) k = min k t
  | 0 => by simp [usedTo]
  | k + 1 => by
    rw [used_succ, used_cntK t k]
    unfold cntK
    by_cases h : k < t
    · rw [if_pos h, if_pos (by decide)]; omega
    · rw [if_neg h, if_neg (by decide)]; omega
theorem small_cntK {n t : Nat} (h1 : 8 ≤ n) (h2 : n ≤ 200) (ht : t ≤ n) : Small n (cntK t) :=
  ⟨h1, h2, fun i => by unfold cntK; split <;> omega, fun i hi => by unfold cntK; rw [if_neg (by omega)]⟩
theorem small0 {n : Nat} (h1 : 8 ≤ n) (h2 : n ≤ 200) : Small n cnt0 := small_cntK h1 h2 (by omega)
set_option maxHeartbeats 4000000 in
theorem awake_any (w : World) : Calls Try.prog 8 #[] w fun e w' => e = .returned (.bool true) ∧ Below w.heap.size w w' := by
  have s0 := small0 (n := 8) (by decide) (by decide)
  have e0 : cnt0 = cntK 3 := rfl
  have cN := fun W => new_good 8 W (by decide) (by decide)
  rw [e0] at cN s0
  rw [show ((8 : Nat) : Int) = 8 from rfl] at cN
  have s4 := small_cntK (n := 8) (t := 4) (by decide) (by decide) (by decide)
  have s5 := small_cntK (n := 8) (t := 5) (by decide) (by decide) (by decide)
  have k3 := cntK_succ 3
  have k4 := cntK_succ 4
  obtain ⟨C6, h6⟩ : ∃ C, C = upd (cntK 5) 3 2 := ⟨_, rfl⟩
  obtain ⟨C8, h8⟩ : ∃ C, C = upd (cntK 5) 3 0 := ⟨_, rfl⟩
  have s6 : Small 8 C6 := by rw [h6]; exact small_upd s5 (by decide) (by decide)
  have s8 : Small 8 C8 := by rw [h8]; exact small_upd s5 (by decide) (by decide)
  have u7 : upd C6 3 1 = cntK 5 := by rw [h6]; funext j; unfold upd; by_cases e : j = 3 <;> simp [e, cntK]
  have cU := fun W g h => used_any g 8 (cntK 3) W h s0
  have cA := fun W g h => alloc_some g 8 (cntK 3) W h s0 3 (by decide) (by decide) (by unfold cntK; intro j hj; rw [if_pos hj]; decide)
  have cB := fun W g h => alloc_some g 8 (cntK 4) W h s4 4 (by decide) (by decide) (by unfold cntK; intro j hj; rw [if_pos hj]; decide)
  have cC := fun W g h => inc_good g 8 (cntK 5) 3 W h s5 (by decide) (by decide) (by decide) (by decide)
  have cD := fun W g h => dec_good g 8 C6 3 W h s6 (by decide) (by decide) (by rw [h6]; decide)
  have cE := fun W g h => dec_good g 8 (cntK 5) 3 W h s5 (by decide) (by decide) (by decide)
  have cF := fun W g h => dec_none g 8 C8 7 W h s8 (by rw [h8]; decide)
  have cG := fun W g h => inc_none g 8 C8 1 W h s8 (by rw [h8]; decide)
  have cH := fun W g h => free_any g 8 C8 W h s8
  have cI := fun W g h => count_any g 8 C8 4 W h s8
  rw [show usedTo (cntK 3) 240 = 3 from by rw [used_cntK]; rfl] at cU
  rw [k3, show ((3 : Nat) : Int) = 3 from rfl] at cA
  rw [k4, show ((4 : Nat) : Int) = 4 from rfl] at cB
  rw [show upd (cntK 5) 3 (cntK 5 3 + 1) = C6 from h6.symm, show ((3 : Nat) : Int) = 3 from rfl] at cC
  rw [show C6 3 - 1 = 1 from by rw [h6]; decide, u7, show ((3 : Nat) : Int) = 3 from rfl, show ((1 : Nat) : Int) = 1 from rfl] at cD
  rw [show cntK 5 3 - 1 = 0 from by decide, ← h8, show ((3 : Nat) : Int) = 3 from rfl, show ((0 : Nat) : Int) = 0 from rfl] at cE
  rw [show usedTo C8 240 = 4 from by rw [h8]; decide +kernel] at cH
  rw [show cntV 8 C8 4 = 1 from by rw [h8]; decide] at cI
  clear k3 k4 h6 h8 s0 s4 s5 s6 s8 u7 e0
  generalize cntK 3 = K3 at *
  generalize cntK 4 = K4 at *
  generalize cntK 5 = K5 at *
  go_enter Try.func8, Try.ntmps8
  go_wp2_with (fail)
  refine (cN _).mono ?_
  rintro e w1 ⟨rfl, b1, t1⟩
  obtain ⟨g, hg⟩ : ∃ g, w.heap.size = g := ⟨_, rfl⟩
  rw [hg] at t1
  try rw [hg]
  have hgw : w.heap.size ≤ g := by omega
  clear hg
  go_wp2_with (fail)
  refine (cU _ _ t1).mono ?_
  rintro e w' ⟨rfl, rfl⟩
  go_wp2_with (fail)
  refine (cA _ _ t1).mono ?_
  rintro e w2 ⟨rfl, t2⟩
  have b2 := b1.trans (t2.keep _ hgw b1.size)
  go_wp2_with (fail)
  refine (cB _ _ t2.t).mono ?_
  rintro e w3 ⟨rfl, t3⟩
  have b3 := b2.trans (t3.keep _ hgw b2.size)
  go_wp2_with (fail)
  refine (cC _ _ t3.t).mono ?_
  rintro e w4 ⟨rfl, t4⟩
  have b4 := b3.trans (t4.keep _ hgw b3.size)
  go_wp2_with (fail)
  refine (cD _ _ t4.t).mono ?_
  rintro e w5 ⟨rfl, t5⟩
  have b5 := b4.trans (t5.keep _ hgw b4.size)
  go_wp2_with (fail)
  refine (cE _ _ t5.t).mono ?_
  rintro e w6 ⟨rfl, t6⟩
  have b6 := b5.trans (t6.keep _ hgw b5.size)
  go_wp2_with (fail)
  refine (cF _ _ t6.t).mono ?_
  rintro e w' ⟨rfl, rfl⟩
  go_wp2_with (fail)
  refine (cG _ _ t6.t).mono ?_
  rintro e w' ⟨rfl, rfl⟩
  go_wp2_with (fail)
  refine (cH _ _ t6.t).mono ?_
  rintro e w' ⟨rfl, k, rfl⟩
  have t7 := t6.t.drewN k
  have b7 : Below w.heap.size w (w6.drewN k) := b6.trans ⟨rfl, rfl, rfl, Nat.le_refl _, fun _ _ => rfl⟩
  generalize w6.drewN k = w7 at *
  go_wp2_with (fail)
  refine (cI _ _ t7).mono ?_
  rintro e w' ⟨rfl, rfl⟩
  go_wp2_with (fail)
  go_ret
  exact ⟨rfl, b7⟩
/-- How many are gone below k. -/
def gn (G : Nat → Bool) (k : Nat) : Nat := ((List.range k).filter G).length
theorem gn_succ (G : Nat → Bool) (k : Nat) : gn G (k + 1) = gn G k + if G k then 1 else 0 := by
  unfold gn; rw [List.range_succ, List.filter_append]
  cases h : G k <;> simp [h]
theorem gn_none {G : Nat → Bool} {a : Nat} : ∀ d, (∀ j, a ≤ j → j < a + d → G j = false) → gn G (a + d) = gn G a
  | 0, _ => rfl
  | d + 1, h => by
    rw [← Nat.add_assoc, gn_succ, h (a + d) (by omega) (by omega), gn_none d (fun j h1 h2 => h j h1 (by omega))]; simp
theorem gn_next {G : Nat → Bool} {a b : Nat} (h : gn G a < gn G b) (hab : a ≤ b) : ∃ k, a ≤ k ∧ k < b ∧ G k = true ∧ (∀ j, a ≤ j → j < k → G j = false) ∧ gn G (k + 1) = gn G a + 1 := by
  have key : ∀ d, gn G a < gn G (a + d) → ∃ k, a ≤ k ∧ k < a + d ∧ G k = true ∧ (∀ j, a ≤ j → j < k → G j = false) := by
    intro d
    induction d with
    | zero => intro h; exact absurd h (Nat.lt_irrefl _)
    | succ d ih =>
      intro h
      by_cases h1 : gn G a < gn G (a + d)
      · obtain ⟨k, h2, h3, h4, h5⟩ := ih h1
        exact ⟨k, h2, by omega, h4, h5⟩
      · by_cases hx : ∃ j, a ≤ j ∧ j < a + d ∧ G j = true
        · exfalso
          obtain ⟨j, j1, j2, j3⟩ := hx
          have mono : ∀ x y, x ≤ y → gn G x ≤ gn G y := by
            intro x y hxy
            obtain ⟨z, rfl⟩ := Nat.exists_eq_add_of_le hxy
            induction z with
            | zero => exact Nat.le_refl _
            | succ z ih2 => have := ih2 (by omega); rw [← Nat.add_assoc, gn_succ]; omega
          have m1 := mono a j j1
          have m2 := mono (j + 1) (a + d) (by omega)
          have m3 := gn_succ G j
          rw [j3] at m3
          simp at m3
          omega
        · have hno : ∀ j, a ≤ j → j < a + d → G j = false := fun j h2 h3 => by
            cases hg : G j with
            | false => rfl
            | true => exact absurd ⟨j, h2, h3, hg⟩ hx
          rw [← Nat.add_assoc, gn_succ, gn_none d hno] at h
          refine ⟨a + d, by omega, by omega, ?_, hno⟩
          cases hg : G (a + d) with
          | true => rfl
          | false => rw [hg] at h; simp at h
  obtain ⟨d, rfl⟩ := Nat.exists_eq_add_of_le hab
  obtain ⟨k, h1, h2, h3, h4⟩ := key d h
  refine ⟨k, h1, h2, h3, h4, ?_⟩
  obtain ⟨z, rfl⟩ := Nat.exists_eq_add_of_le h1
  rw [gn_succ, h3, gn_none z h4]; rfl
theorem gn_set {G H : Nat → Bool} {b : Nat} (hb : G b = false) (hH : H b = true) (ho : ∀ j, j ≠ b → H j = G j) : ∀ k, gn H k = gn G k + if b < k then 1 else 0
  | 0 => by simp [gn]
  | k + 1 => by
    rw [gn_succ, gn_succ, gn_set hb hH ho k]
    by_cases e : k = b
    · subst e; rw [hH, hb]; simp
    · rw [ho k e]
      by_cases h1 : b < k
      · have h2 : b < k + 1 := by omega
        rw [if_pos h1, if_pos h2]; omega
      · have h2 : ¬ b < k + 1 := by omega
        rw [if_neg h1, if_neg h2]; omega
theorem gn_le (G : Nat → Bool) (k : Nat) : gn G k ≤ k := by have := List.length_filter_le G (List.range k); unfold gn; simpa using this

/-- What is counted when some are gone, and those up to L are taken again. -/
def cG (t : Nat) (G : Nat → Bool) : Nat → Nat := fun i => if i < t ∧ G i = false then 1 else 0
def cL (t : Nat) (G : Nat → Bool) (L : Nat) : Nat → Nat := fun i => if i < t ∧ (G i = false ∨ i ≤ L) then 1 else 0
theorem small_cG {n t : Nat} (h1 : 8 ≤ n) (h2 : n ≤ 200) (ht : t ≤ n) (G : Nat → Bool) : Small n (cG t G) :=
  ⟨h1, h2, fun i => by unfold cG; split <;> omega, fun i hi => by unfold cG; rw [if_neg (by omega)]⟩
theorem small_cL {n t : Nat} (h1 : 8 ≤ n) (h2 : n ≤ 200) (ht : t ≤ n) (G : Nat → Bool) (L : Nat) : Small n (cL t G L) :=
  ⟨h1, h2, fun i => by unfold cL; split <;> omega, fun i hi => by unfold cL; rw [if_neg (by omega)]⟩
def setG (G : Nat → Bool) (b : Nat) : Nat → Bool := fun j => if j = b then true else G j
theorem cG_start (t : Nat) : cG t (fun _ => false) = cntK t := by funext i; simp [cG, cntK]
theorem cG_set {t b : Nat} (G : Nat → Bool) : upd (cG t G) b 0 = cG t (setG G b) := by
  funext i; unfold upd cG setG
  by_cases h : i = b
  · subst h; simp
  · simp [h]
theorem cL_start {t : Nat} {G : Nat → Bool} (h0 : G 0 = false) : cG t G = cL t G 0 := by
  funext i; unfold cG cL
  by_cases h : i = 0
  · subst h; simp [h0]
  · simp [h]
theorem cL_step {t k L : Nat} {G : Nat → Bool} (hk : k < t) (h1 : L < k) (hl : ∀ j, L + 1 ≤ j → j < k → G j = false) : upd (cL t G L) k 1 = cL t G k := by
  funext i; unfold upd cL
  by_cases h : i = k
  · subst h; simp [hk]
  · rw [if_neg h]
    by_cases hi : i < t
    · by_cases h2 : i < k
      · have : G i = false ∨ i ≤ L := by
          rcases Nat.lt_or_ge L i with h3 | h3
          · exact .inl (hl i h3 h2)
          · exact .inr h3
        rw [if_pos ⟨hi, this⟩, if_pos ⟨hi, .inr (by omega)⟩]
      · have a1 : ¬ i ≤ L := by omega
        have a2 : ¬ i ≤ k := by omega
        simp [hi, a1, a2]
    · simp [hi]
theorem cL_end {t L n : Nat} {G : Nat → Bool} (ht : t ≤ n) (hg : gn G (L + 1) = gn G n) : cL t G L = cntK t := by
  funext i; unfold cL cntK
  by_cases hi : i < t
  · rw [if_pos hi, if_pos]
    refine ⟨hi, ?_⟩
    rcases Nat.lt_or_ge L i with h3 | h3
    · left
      cases h : G i with
      | false => rfl
      | true =>
        exfalso
        have mono : ∀ x y, x ≤ y → gn G x ≤ gn G y := by
          intro x y hxy
          obtain ⟨z, rfl⟩ := Nat.exists_eq_add_of_le hxy
          induction z with
          | zero => exact Nat.le_refl _
          | succ z ih2 => have := ih2 (by omega); rw [← Nat.add_assoc, gn_succ]; omega
        have m1 := mono (L + 1) i h3
        have m2 := mono (i + 1) n (by omega)
        have m3 := gn_succ G i
        rw [h] at m3
        simp at m3
        omega
    · exact .inr h3
  · rw [if_neg hi, if_neg (fun h => hi h.1)]
def gRow (n : Nat) (G : Nat → Bool) : List Value := rowV n fun i => .bool (G i)
set_option maxRecDepth 100000 in
set_option maxHeartbeats 2500000 in
theorem least_walk (blocks takes : Int) (vb : Value) (l : List Int) (w : World) (rb : -9223372036854775808 ≤ blocks ∧ blocks ≤ 9223372036854775807) (rt : -9223372036854775808 ≤ takes ∧ takes ≤ 9223372036854775807)
    (R : Reads w vb (l.map (.int .i64))) (hr : ∀ i, i < l.length → -9223372036854775808 ≤ l.getD i 0 ∧ l.getD i 0 ≤ 9223372036854775807) (ll : l.length ≤ 140737488355328) :
    Calls Try.prog 7 #[.int .i64 blocks, .int .i64 takes, vb] w fun e w' => e = .returned (.bool true) ∧ Below w.heap.size w w' := by
  obtain ⟨ib, hi, hz0, hz1, hz2⟩ := info_parts Try.infoBl
  obtain ⟨ab, cb, rfl, cell⟩ := R.nums
  have hpb := pk_rng blocks 193 (by decide)
  obtain ⟨q, hq⟩ := Int.eq_ofNat_of_zero_le hpb.1
  have hn8 : 8 ≤ (8 + q) := by omega
  have hn200 : (8 + q) ≤ 200 := by omega
  have hpt := pk_rng takes (8 + (q : Int) - 2) (by omega)
  obtain ⟨tk, htk⟩ := Int.eq_ofNat_of_zero_le hpt.1
  have htk3 : 3 + tk ≤ (8 + q) := by omega
  have p1 := fun W => pick_any blocks 193 W rb.1 rb.2 (by decide) (by decide)
  rw [hq] at p1
  have p2 := fun W => pick_any takes (8 + (q : Int) - 2) W rt.1 rt.2 (by omega) (by omega)
  rw [htk] at p2
  have cN : ∀ W, Calls Try.prog 9 #[.int .i64 (8 + (q : Int))] W (MadeT W (8 + q) cnt0) := fun W => by
    have := new_good (8 + q) W hn8 hn200
    rwa [show ((8 + q : Nat) : Int) = 8 + (q : Int) by omega] at this
  have q192 : (q : Int) ≤ 192 := by omega
  clear hpb hpt hq htk rb rt R
  go_enter Try.func7, Try.ntmps7
  go_wp2_with (fail)
  refine (awake_any _).mono ?_
  rintro e w1 ⟨rfl, b1⟩
  have hs1 := b1.size
  go_wp2_with (fail)
  refine (p1 _).mono ?_
  rintro e w' ⟨rfl, rfl⟩
  go_wp2_with (fail)
  refine (cN _).mono ?_
  rintro e w2 ⟨rfl, b2, t2⟩
  have B2 := below_e b1 b2
  obtain ⟨g, hg⟩ : ∃ g, w1.heap.size = g := ⟨_, rfl⟩
  rw [hg] at t2
  try rw [hg]
  have hgw : w.heap.size ≤ g := by omega
  clear hg b1 b2 hs1
  go_wp2_with (fail)
  refine (p2 _).mono ?_
  rintro e w' ⟨rfl, rfl⟩
  go_wp2_with (fail)
  go_loopw [11] (fun t wr => ∃ i : Nat, i ≤ tk ∧ t = .int .i64 (i : Int) ∧ Below w.heap.size w wr ∧ TabAt wr g (8 + q) (cntK (3 + i))) (fun t _ => tk - (intOf t).toNat)
  case atStart => exact ⟨0, by omega, rfl, B2, t2⟩
  case round =>
    obtain ⟨i, hi1, rfl, hB, hT⟩ := hrel
    have hBs := hB.size
    by_cases hlt : i < tk
    · have x1 : (i : Int) < (tk : Int) := by omega
      have cA := alloc_some g (8 + q) _ _ hT (small_cntK hn8 hn200 (by omega)) (3 + i) (by omega) (by unfold cntK; rw [if_neg (by omega)]) (by intro j hj; unfold cntK; rw [if_pos hj]; decide)
      rw [cntK_succ, show 3 + i + 1 = 3 + (i + 1) by omega, show ((3 + i : Nat) : Int) = 3 + (i : Int) by omega] at cA
      generalize hK : cntK (3 + (i + 1)) = K at *
      go_wp2_with (fail)
      refine cA.mono ?_
      rintro e w3 ⟨rfl, t3⟩
      have B3 := hB.trans (t3.keep _ hgw hBs)
      go_wp2_with (fail)
      go_roundw
      case rel => exact ⟨i + 1, by omega, by go_num, B3, by rw [hK]; exact t3.t⟩
      case measure => simp [intOf]; omega
    · obtain rfl : i = tk := by omega
      rename World => wA
      obtain ⟨w4, hmk, o4, b4⟩ := Own.make_run (P := Try.prog) (T := 52) Try.underlying52 hi hz0 hz1 hz2 rfl wA (8 + q) (by omega) (by omega)
      rw [rowV_rep] at o4
      rw [show ((8 + q : Nat) : Int) = 8 + (q : Int) by omega] at hmk
      obtain ⟨gb, hgb⟩ : ∃ gb, wA.heap.size = gb := ⟨_, rfl⟩
      rw [hgb] at o4 hmk
      have T4 := hT.below b4 hT.lt
      have B4 := hB.trans (b4.mono hBs)
      have hgg : g < gb := by have := hT.lt; omega
      rw [← cG_start] at T4
      clear hgb b4
      go_wp2_with (fail)
      go_loopw [15, 16] (fun u t wr => ∃ (j : Nat) (G : Nat → Bool), j ≤ l.length ∧ t = .int .i64 (j : Int) ∧ u = .int .i64 ((gn G (8 + q) : Nat) : Int) ∧ (∀ x, G x = true → 3 ≤ x ∧ x < 3 + i) ∧ Below w.heap.size w wr ∧ TabAt wr g (8 + q) (cG (3 + i) G) ∧ Own wr gb 4 (.slice (some ⟨gb, 0, none⟩) (8 + q) (8 + q)) (gRow (8 + q) G)) (fun _ t _ => l.length - (intOf t).toNat)
      case atStart => exact ⟨0, fun _ => false, by omega, rfl, by rw [show gn (fun _ => false) (8 + q) = 0 from by unfold gn; simp]; rfl, (fun x hx => by cases hx), B4, T4, o4⟩
      case round =>
        obtain ⟨j, G, hj, rfl, rfl, hG, hB5, hT5, hO5⟩ := hrel
        rename World => wr
        have hB5s := hB5.size
        have hgl := gn_le G (8 + q)
        by_cases hc : j < l.length ∧ j < 300 ∧ 0 < i
        · obtain ⟨hjl, hj3, hi0⟩ := hc
          have y1 : (j : Int) < (l.length : Int) := by omega
          have y2 : (j : Int) < 300 := by omega
          have y3 : (0 : Int) < (i : Int) := by omega
          obtain ⟨nb, no, rfl, hnb, hnc⟩ := cell j hjl
          have dn : wr.cell? ⟨nb, no + j, none⟩ = some (.int .i64 (l.getD j 0)) := by rw [hB5.cell (p := ⟨nb, no + j, none⟩) hnb]; exact hnc
          have hrj := hr j hjl
          clear hnc
          generalize l.getD j 0 = num at *
          have hpk := pk_rng num (i : Int) (by omega)
          obtain ⟨p, hp⟩ := Int.eq_ofNat_of_zero_le hpk.1
          have c9 := fun W => pick_any num (i : Int) W hrj.1 hrj.2 (by omega) (by omega)
          rw [hp] at c9
          have hp3 : p < i := by omega
          have hb3 : Hid (3 + (p : Int) = ((3 + p : Nat) : Int)) := Lib.hid (by omega)
          have hpn : (p : Int) ≤ 200 := by omega
          clear hpk hp
          have hgc := hO5.cell (i := 3 + p) (by rw [gRow, rowV_len]; omega)
          rw [gRow, rowV_get _ _ _ (by omega)] at hgc
          have hgf := hO5.frozen (3 + p)
          have z1 : (((3 + p : Nat) : Int)) < ((8 + q) : Int) := by omega
          have z2 : 3 + p < (8 + q) := by omega
          cases hGp : G (3 + p) with
          | false =>
            rw [hGp] at hgc
            have hC1 : cG (3 + i) G (3 + p) = 1 := by unfold cG; rw [if_pos ⟨by omega, hGp⟩]
            have cD := dec_good g (8 + q) _ (3 + p) _ hT5 (small_cG hn8 hn200 htk3 G) (by omega) (by omega) (by omega)
            rw [hC1, cG_set, show ((1 - 1 : Nat) : Int) = 0 from rfl] at cD
            have hO6 := hO5.set (3 + p) (.bool true)
            have hne : gb ≠ g := by omega
            have HN : Hid (gn (setG G (3 + p)) (8 + q) = gn G (8 + q) + 1) := Lib.hid (by rw [gn_set hGp (show setG G (3 + p) (3 + p) = true from if_pos rfl) (fun x hx => if_neg hx) (8 + q), if_pos z2])
            have HR : Hid ((gRow (8 + q) G).set (3 + p) (.bool true) = gRow (8 + q) (setG G (3 + p))) := Lib.hid (rowV_set (8 + q) _ _ (3 + p) _ (congrArg Value.bool (if_pos rfl)) (fun x hx => congrArg Value.bool (if_neg hx)))
            have HG : ∀ x, setG G (3 + p) x = true → 3 ≤ x ∧ x < 3 + i := by
              intro x hx
              by_cases e : x = 3 + p
              · subst e; omega
              · exact hG x (by unfold setG at hx; rwa [if_neg e] at hx)
            clear hC1 hGp hG
            generalize gn G (8 + q) = m at *
            generalize gRow (8 + q) G = gr at *
            go_wp2_with (fail)
            refine (c9 _).mono ?_
            rintro e w' ⟨rfl, rfl⟩
            go_wp2_with (fail)
            rw [hb3.out]
            refine cD.mono ?_
            rintro e w6 ⟨rfl, t6⟩
            have B6 := hB5.trans (t6.keep _ hgw hB5s)
            have gblk := t6.oth gb hO5.lt.2 hne
            have e1 : w6.cell? ⟨gb, 3 + p, none⟩ = some (.bool false) := by rw [← hgc]; simp only [World.cell?, gblk]
            have e2 : w6.frozen? ⟨gb, 3 + p, none⟩ = false := by rw [← hgf]; simp only [World.frozen?, gblk]
            have hO7 : Own w6 gb 4 (.slice (some ⟨gb, 0, none⟩) (8 + q) (8 + q)) gr := hO5.sameBlock gblk
            have hO8 := hO7.set (3 + p) (.bool true)
            rw [HR.out] at hO8
            have T7 := t6.t.other (k := gb) (o := 3 + p) (.bool true) (by omega)
            have B7 := B6.setCell (p := ⟨gb, 3 + p, none⟩) (by show w.heap.size ≤ gb; omega) (.bool true)
            clear hO5 hO6 hO7 gblk hgc hgf
            go_wp2_with (fail)
            go_roundw
            case rel => exact ⟨j + 1, setG G (3 + p), by omega, by go_num, by rw [HN.out]; go_num, HG, B7, T7, hO8⟩
            case measure => simp [intOf]; omega
          | true =>
            rw [hGp] at hgc
            have cD := dec_none g (8 + q) _ ((3 + p : Nat) : Int) _ hT5 (small_cG hn8 hn200 htk3 G) (by
              unfold cntdB; rw [decide_eq_false_iff_not]; rintro ⟨_, h⟩
              rw [cntV, if_pos (by omega)] at h
              have : cG (3 + i) G (3 + p) = 0 := by unfold cG; rw [if_neg (by rw [hGp]; simp)]
              exact absurd h (by rw [Int.toNat_natCast, this]; decide))
            have HR : Hid ((gRow (8 + q) G).set (3 + p) (.bool true) = gRow (8 + q) G) := Lib.hid (rowV_set (8 + q) _ _ (3 + p) _ (congrArg Value.bool hGp) (fun x hx => rfl))
            have hO8 := hO5.set (3 + p) (.bool true)
            rw [HR.out] at hO8
            have T7 := hT5.other (k := gb) (o := 3 + p) (.bool true) (by omega)
            have B7 := hB5.setCell (p := ⟨gb, 3 + p, none⟩) (by show w.heap.size ≤ gb; omega) (.bool true)
            clear hGp
            generalize hgn : gn G (8 + q) = m at *
            go_wp2_with (fail)
            refine (c9 _).mono ?_
            rintro e w' ⟨rfl, rfl⟩
            go_wp2_with (fail)
            rw [hb3.out]
            refine cD.mono ?_
            rintro e w6 ⟨rfl, rfl⟩
            have hgn := Lib.hid hgn
            go_wp2_with (fail)
            go_roundw
            case rel => exact ⟨j + 1, G, by omega, by go_num, (by first | rfl | trivial | (rw [hgn.out])), hG, B7, T7, hO8⟩
            case measure => simp [intOf]; omega
        · have hexit : (¬ j < l.length) ∨ (j < l.length ∧ ¬ j < 300) ∨ (j < l.length ∧ j < 300 ∧ i = 0) := by omega
          clear hc
          have G0 : G 0 = false := by
            cases h : G 0 with
            | false => rfl
            | true => have := hG 0 h; omega
          have hT6 := hT5
          rw [cL_start G0] at hT6
          have hg1 : gn G (0 + 1) = 0 := by rw [gn_succ, G0]; rfl
          clear hT5
          obtain ⟨M, hM⟩ : ∃ M, gn G (8 + q) = M := ⟨_, rfl⟩
          rw [hM]
          rw [hM] at hgl
          have hMH := Lib.hid hM
          have hGH := Lib.hid hG
          have h1H := Lib.hid hg1
          clear hM hG hg1 G0
          rcases hexit with hx | ⟨hx, hx2⟩ | ⟨hx, hx2, hx3⟩
          · have y1 : decide (j < l.length) = false := by rw [decide_eq_false_iff_not]; exact hx
            go_wp2_with (fail)
            go_loopw [20, 21] (fun u t wr => ∃ (m L : Nat), m ≤ M ∧ t = .int .i64 (m : Int) ∧ u = .int .i64 (L : Int) ∧ gn G (L + 1) = m ∧ (L = 0 ∨ L < 3 + i) ∧ Below w.heap.size w wr ∧ TabAt wr g (8 + q) (cL (3 + i) G L) ∧ Own wr gb 4 (.slice (some ⟨gb, 0, none⟩) (8 + q) (8 + q)) (gRow (8 + q) G)) (fun _ t _ => M - (intOf t).toNat)
            case atStart => exact ⟨0, 0, by omega, rfl, rfl, h1H.out, .inl rfl, hB5, hT6, hO5⟩
            case round =>
              obtain ⟨m, L, hm, rfl, rfl, hgL, hL, hB8, hT8, hO8⟩ := hrel
              rename World => wr8
              have hB8s := hB8.size
              by_cases hlt : m < M
              · have x1 : (m : Int) < (M : Int) := by omega
                obtain ⟨k, k1, k2, k3, k4, k5⟩ := gn_next (G := G) (a := L + 1) (b := 8 + q) (by rw [hgL, hMH.out]; exact hlt) (by omega)
                have k6 := hGH.out k k3
                have cA := alloc_some g (8 + q) _ _ hT8 (small_cL hn8 hn200 (by omega) G L) k k2 (by unfold cL; rw [if_neg]; rintro ⟨_, h | h⟩; rw [k3] at h; cases h; omega) (by
                  intro x hx
                  unfold cL
                  rw [if_pos]
                  · decide
                  · refine ⟨by omega, ?_⟩
                    rcases Nat.lt_or_ge L x with h | h
                    · exact .inl (k4 x h hx)
                    · exact .inr h)
                rw [cL_step k6.2 (by omega) k4] at cA
                have hgc := hO8.cell (i := k) (by rw [gRow, rowV_len]; exact k2)
                rw [gRow, rowV_get _ _ _ k2, k3] at hgc
                have kn : (k : Int) < ((8 + q : Nat) : Int) := by omega
                have kL : decide ((k : Int) ≤ (L : Int)) = false := by rw [decide_eq_false_iff_not]; omega
                have kL' : decide (k ≤ L) = false := by rw [decide_eq_false_iff_not]; omega
                have hne : gb ≠ g := by omega
                rw [hgL] at k5
                have k5H := Lib.hid k5
                have k6H := k6.2
                clear k4 k5 k6 k3 hgL
                go_wp2_with (fail)
                refine cA.mono ?_
                rintro e w9 ⟨rfl, t9⟩
                have B9 := hB8.trans (t9.keep _ hgw hB8s)
                have gblk := t9.oth gb hO8.lt.2 hne
                have e1 : w9.cell? ⟨gb, k, none⟩ = some (.bool true) := by rw [← hgc]; simp only [World.cell?, gblk]
                have O9 := hO8.sameBlock gblk
                clear hgc gblk
                go_wp2_with (fail)
                go_roundw
                case rel => exact ⟨m + 1, k, by omega, by go_num, rfl, k5H.out, .inr k6H, B9, t9.t, O9⟩
                case measure => simp [intOf]; omega
              · obtain rfl : m = M := by omega
                have hend := cL_end (t := 3 + i) (L := L) (n := 8 + q) (G := G) (by omega) (by rw [hgL, hMH.out])
                rw [hend] at hT8
                have cU := used_any g (8 + q) _ _ hT8 (small_cntK hn8 hn200 (by omega))
                rw [used_cntK, Nat.min_eq_right (by omega)] at cU
                have e3 : Hid (((3 + i : Nat) : Int) = 3 + ((i : Nat) : Int)) := Lib.hid (by omega)
                rw [e3.out] at cU
                clear hend hgL
                go_wp2_with (fail)
                refine cU.mono ?_
                rintro e w' ⟨rfl, rfl⟩
                go_wp2_with (fail)
                go_ret
                exact ⟨by simp, hB8⟩
          · have y1 : (j : Int) < (l.length : Int) := by omega
            have y2 : decide ((j : Int) < 300) = false := by rw [decide_eq_false_iff_not]; omega
            go_wp2_with (fail)
            go_loopw [20, 21] (fun u t wr => ∃ (m L : Nat), m ≤ M ∧ t = .int .i64 (m : Int) ∧ u = .int .i64 (L : Int) ∧ gn G (L + 1) = m ∧ (L = 0 ∨ L < 3 + i) ∧ Below w.heap.size w wr ∧ TabAt wr g (8 + q) (cL (3 + i) G L) ∧ Own wr gb 4 (.slice (some ⟨gb, 0, none⟩) (8 + q) (8 + q)) (gRow (8 + q) G)) (fun _ t _ => M - (intOf t).toNat)
            case atStart => exact ⟨0, 0, by omega, rfl, rfl, h1H.out, .inl rfl, hB5, hT6, hO5⟩
            case round =>
              obtain ⟨m, L, hm, rfl, rfl, hgL, hL, hB8, hT8, hO8⟩ := hrel
              rename World => wr8
              have hB8s := hB8.size
              by_cases hlt : m < M
              · have x1 : (m : Int) < (M : Int) := by omega
                obtain ⟨k, k1, k2, k3, k4, k5⟩ := gn_next (G := G) (a := L + 1) (b := 8 + q) (by rw [hgL, hMH.out]; exact hlt) (by omega)
                have k6 := hGH.out k k3
                have cA := alloc_some g (8 + q) _ _ hT8 (small_cL hn8 hn200 (by omega) G L) k k2 (by unfold cL; rw [if_neg]; rintro ⟨_, h | h⟩; rw [k3] at h; cases h; omega) (by
                  intro x hx
                  unfold cL
                  rw [if_pos]
                  · decide
                  · refine ⟨by omega, ?_⟩
                    rcases Nat.lt_or_ge L x with h | h
                    · exact .inl (k4 x h hx)
                    · exact .inr h)
                rw [cL_step k6.2 (by omega) k4] at cA
                have hgc := hO8.cell (i := k) (by rw [gRow, rowV_len]; exact k2)
                rw [gRow, rowV_get _ _ _ k2, k3] at hgc
                have kn : (k : Int) < ((8 + q : Nat) : Int) := by omega
                have kL : decide ((k : Int) ≤ (L : Int)) = false := by rw [decide_eq_false_iff_not]; omega
                have kL' : decide (k ≤ L) = false := by rw [decide_eq_false_iff_not]; omega
                have hne : gb ≠ g := by omega
                rw [hgL] at k5
                have k5H := Lib.hid k5
                have k6H := k6.2
                clear k4 k5 k6 k3 hgL
                go_wp2_with (fail)
                refine cA.mono ?_
                rintro e w9 ⟨rfl, t9⟩
                have B9 := hB8.trans (t9.keep _ hgw hB8s)
                have gblk := t9.oth gb hO8.lt.2 hne
                have e1 : w9.cell? ⟨gb, k, none⟩ = some (.bool true) := by rw [← hgc]; simp only [World.cell?, gblk]
                have O9 := hO8.sameBlock gblk
                clear hgc gblk
                go_wp2_with (fail)
                go_roundw
                case rel => exact ⟨m + 1, k, by omega, by go_num, rfl, k5H.out, .inr k6H, B9, t9.t, O9⟩
                case measure => simp [intOf]; omega
              · obtain rfl : m = M := by omega
                have hend := cL_end (t := 3 + i) (L := L) (n := 8 + q) (G := G) (by omega) (by rw [hgL, hMH.out])
                rw [hend] at hT8
                have cU := used_any g (8 + q) _ _ hT8 (small_cntK hn8 hn200 (by omega))
                rw [used_cntK, Nat.min_eq_right (by omega)] at cU
                have e3 : Hid (((3 + i : Nat) : Int) = 3 + ((i : Nat) : Int)) := Lib.hid (by omega)
                rw [e3.out] at cU
                clear hend hgL
                go_wp2_with (fail)
                refine cU.mono ?_
                rintro e w' ⟨rfl, rfl⟩
                go_wp2_with (fail)
                go_ret
                exact ⟨by simp, hB8⟩
          · have y1 : (j : Int) < (l.length : Int) := by omega
            have y2 : (j : Int) < 300 := by omega
            have y3 : decide ((0 : Int) < (i : Int)) = false := by rw [decide_eq_false_iff_not]; omega
            have y3' : decide (0 < i) = false := by rw [decide_eq_false_iff_not]; omega
            clear hx3
            go_wp2_with (fail)
            go_loopw [20, 21] (fun u t wr => ∃ (m L : Nat), m ≤ M ∧ t = .int .i64 (m : Int) ∧ u = .int .i64 (L : Int) ∧ gn G (L + 1) = m ∧ (L = 0 ∨ L < 3 + i) ∧ Below w.heap.size w wr ∧ TabAt wr g (8 + q) (cL (3 + i) G L) ∧ Own wr gb 4 (.slice (some ⟨gb, 0, none⟩) (8 + q) (8 + q)) (gRow (8 + q) G)) (fun _ t _ => M - (intOf t).toNat)
            case atStart => exact ⟨0, 0, by omega, rfl, rfl, h1H.out, .inl rfl, hB5, hT6, hO5⟩
            case round =>
              obtain ⟨m, L, hm, rfl, rfl, hgL, hL, hB8, hT8, hO8⟩ := hrel
              rename World => wr8
              have hB8s := hB8.size
              by_cases hlt : m < M
              · have x1 : (m : Int) < (M : Int) := by omega
                obtain ⟨k, k1, k2, k3, k4, k5⟩ := gn_next (G := G) (a := L + 1) (b := 8 + q) (by rw [hgL, hMH.out]; exact hlt) (by omega)
                have k6 := hGH.out k k3
                have cA := alloc_some g (8 + q) _ _ hT8 (small_cL hn8 hn200 (by omega) G L) k k2 (by unfold cL; rw [if_neg]; rintro ⟨_, h | h⟩; rw [k3] at h; cases h; omega) (by
                  intro x hx
                  unfold cL
                  rw [if_pos]
                  · decide
                  · refine ⟨by omega, ?_⟩
                    rcases Nat.lt_or_ge L x with h | h
                    · exact .inl (k4 x h hx)
                    · exact .inr h)
                rw [cL_step k6.2 (by omega) k4] at cA
                have hgc := hO8.cell (i := k) (by rw [gRow, rowV_len]; exact k2)
                rw [gRow, rowV_get _ _ _ k2, k3] at hgc
                have kn : (k : Int) < ((8 + q : Nat) : Int) := by omega
                have kL : decide ((k : Int) ≤ (L : Int)) = false := by rw [decide_eq_false_iff_not]; omega
                have kL' : decide (k ≤ L) = false := by rw [decide_eq_false_iff_not]; omega
                have hne : gb ≠ g := by omega
                rw [hgL] at k5
                have k5H := Lib.hid k5
                have k6H := k6.2
                clear k4 k5 k6 k3 hgL
                go_wp2_with (fail)
                refine cA.mono ?_
                rintro e w9 ⟨rfl, t9⟩
                have B9 := hB8.trans (t9.keep _ hgw hB8s)
                have gblk := t9.oth gb hO8.lt.2 hne
                have e1 : w9.cell? ⟨gb, k, none⟩ = some (.bool true) := by rw [← hgc]; simp only [World.cell?, gblk]
                have O9 := hO8.sameBlock gblk
                clear hgc gblk
                go_wp2_with (fail)
                go_roundw
                case rel => exact ⟨m + 1, k, by omega, by go_num, rfl, k5H.out, .inr k6H, B9, t9.t, O9⟩
                case measure => simp [intOf]; omega
              · obtain rfl : m = M := by omega
                have hend := cL_end (t := 3 + i) (L := L) (n := 8 + q) (G := G) (by omega) (by rw [hgL, hMH.out])
                rw [hend] at hT8
                have cU := used_any g (8 + q) _ _ hT8 (small_cntK hn8 hn200 (by omega))
                rw [used_cntK, Nat.min_eq_right (by omega)] at cU
                have e3 : Hid (((3 + i : Nat) : Int) = 3 + ((i : Nat) : Int)) := Lib.hid (by omega)
                rw [e3.out] at cU
                clear hend hgL
                go_wp2_with (fail)
                refine cU.mono ?_
                rintro e w' ⟨rfl, rfl⟩
                go_wp2_with (fail)
                go_ret
                exact ⟨by simp, hB8⟩
end Go.Proofs.Ytbfdjlibhinkiaa
