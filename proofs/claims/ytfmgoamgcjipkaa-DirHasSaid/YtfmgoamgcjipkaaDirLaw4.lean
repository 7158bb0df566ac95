/- dir's laws: what is changed. -/
import Derived.Test.YtfmgoamgcjipkaaDirLaw2
import Derived.Deep.RegionHeld3
import Derived.Test.YtfmgoamgcjipkaaDirFit2
import Derived.Test.YtfmgoamgcjipkaaIntRng
namespace Go.Proofs.Ytfmgoamgcjipkaa
open Go.RowKit
set_option linter.unusedVariables false
set_option linter.unusedSimpArgs false
open Dr

theorem change_right (v : Value) (l : List Vol) (i : Nat) (y : Vol) (w : World) (hR : ReadsE volE w v l) (hr : rightB 200 l = true) (hi : i < l.length) (hn : y.n = (at_ l i).n) :
    Calls Try.prog 12 #[v, .agg #[.string y.n, .int .i64 y.s, .int .i64 y.r]] w (GivesVE w (l.set i y) 0) := by
  have h8 := (right_parts hr).1
  have hf : findN l y.n = i := by rw [hn]; exact find_at hr hi
  have := change_any v l y w hR (by omega)
  rw [show chgL l y = l.set i y by rw [chgL, hf, if_pos hi], show chgE l y = 0 by rw [chgE, hf, if_pos hi]] at this
  exact this
set_option maxRecDepth 100000 in
set_option maxHeartbeats 16000000 in
theorem changes_walk (v1 : Value) (l1 : List Vol) (v2 : Value) (n1 : List Int) (wh sz rt : Int) (w : World) (R1 : ReadsE volE w v1 l1) (R2 : Reads w v2 (n1.map (.int .i64)))
    (I1 : ∀ x ∈ l1, In64 x.s ∧ In64 x.r) (I2 : ∀ i, i < n1.length → -9223372036854775808 ≤ n1.getD i 0 ∧ n1.getD i 0 ≤ 9223372036854775807)
    (s1 : l1.length ≤ 140737488351232) (s2 : n1.length ≤ 140737488351232) (r3 : -9223372036854775808 ≤ wh ∧ wh ≤ 9223372036854775807) (r4 : -9223372036854775808 ≤ sz ∧ sz ≤ 9223372036854775807) (r5 : -9223372036854775808 ≤ rt ∧ rt ≤ 9223372036854775807) :
    Calls Try.prog 7 #[v1, v2, .int .i64 wh, .int .i64 sz, .int .i64 rt] w (Tells w (.bool true)) := by
  have c1 := fun W (hW : Below w.heap.size w W) => fit_any v1 l1 v2 n1 W (R1.below hW) I1 (R2.below hW) I2 s1 s2
  obtain ⟨p1, hp1, _, cp1⟩ := pick_nat sz 4097 r4.1 r4.2 (by decide) (by decide)
  obtain ⟨p2, hp2, _, cp2⟩ := pick_nat rt 197 r5.1 r5.2 (by decide) (by decide)
  clear R1 R2 I1 I2
  go_enter Try.func7, Try.ntmps7
  go_wp2_with (fail)
  refine (dawake_any _).mono ?_
  rintro e w1 ⟨rfl, B1⟩
  go_wp2_with (fail)
  refine (c1 _ B1).mono ?_
  rintro e w2 ⟨l, vl, rfl, ol, b2, hr⟩
  have B2 := below_c B1 b2
  have rl := ol.reads
  obtain ⟨h8, hv, hri⟩ := right_parts hr
  obtain ⟨al, cal, rfl, cll⟩ := items3 rl
  clear c1 ol b2 B1
  by_cases h0 : l.length = 0
  · have t0 : ((l.length : Int) == 0) = true := by rw [beq_iff_eq]; omega
    have t0n : (l.length == 0) = true := by rw [beq_iff_eq]; exact h0
    clear h0
    go_wp2_with (fail)
    go_ret
    exact ⟨rfl, B2⟩
  have t0 : ((l.length : Int) == 0) = false := by rw [beq_eq_false_iff_ne]; omega
  have t0n : (l.length == 0) = false := by rw [beq_eq_false_iff_ne]; exact h0
  obtain ⟨q, hq, _, cq⟩ := pick_nat wh (l.length : Int) r3.1 r3.2 (by omega) (by omega)
  have hql : q < l.length := by omega
  clear h0
  obtain ⟨lb, lo, hlb, hlbs, hlc⟩ := cll q hql
  subst hlb
  obtain ⟨d0, d1, d2⟩ := hlc w2 (Below.refl _ _)
  have g0 : w2.drew.cell? ⟨lb, lo + q * 3, none⟩ = some (.string (at_ l q).n) := d0
  have hnm := name_vol hr hql
  have hyv : volB 200 ⟨(at_ l q).n, (p1 : Int), (3 : Int) + (p2 : Int)⟩ = true := volB_of _ hnm _ _ (by omega) (.inr (by omega))
  obtain ⟨y, hy⟩ : ∃ y : Vol, y = ⟨(at_ l q).n, (p1 : Int), (3 : Int) + (p2 : Int)⟩ := ⟨_, rfl⟩
  have yn : y.n = (at_ l q).n := by rw [hy]
  have ys : y.s = (p1 : Int) := by rw [hy]
  have yr : y.r = (3 : Int) + (p2 : Int) := by rw [hy]
  rw [← hy] at hyv
  obtain ⟨X, hXX⟩ : ∃ X, at_ l q = X := ⟨_, rfl⟩
  have cC1 : ∀ (v : Value) (W : World), ReadsE volE W v l → Calls Try.prog 12 #[v, .agg #[.string X.n, .int .i64 (p1 : Int), .int .i64 ((3 : Int) + (p2 : Int))]] W (GivesVE W (l.set q y) 0) := fun v W h => by
    have := change_right v l q y W h hr hql yn
    rw [yn, ys, yr, hXX] at this
    exact this
  have hqv : ∀ (W : World) (x : Vol), (Op.equalIn 10000 24 (.agg #[.string x.n, .int .i64 x.s, .int .i64 x.r]) (.agg #[.string X.n, .int .i64 (p1 : Int), .int .i64 ((3 : Int) + (p2 : Int))])).run Try.prog W = .ok (decide (x = y)) W := fun W x => by
    have := eql_vol W x y
    rw [yn, ys, yr, hXX] at this
    exact this
  have hset := set_right hr hql yn hyv
  have hX : (at_ l q).n = (at_ (l.set q y) q).n := by rw [at_set hql]; exact yn.symm
  have cC2 := fun v W h => change_right v (l.set q y) q (at_ l q) W h hset (by rw [List.length_set]; exact hql) hX
  rw [set_back hql] at cC2
  have cRt := fun v W h => right_any 200 v (l.set q y) W h hset (right_vols hset)
  have cS : ∀ v u W, ReadsE volE W v l → ReadsE volE W u l → Calls Try.prog 20 #[v, u] W (Tells W (.bool true)) := fun v u W h1 h2 => by
    have := same_any v u l l W h1 h2 (by omega); rw [decide_eq_true rfl] at this; exact this
  have hset1 := fun (j : Nat) (hj : j < l.length) => show at_ (l.set q y) j = if j = q then y else at_ l j by
    by_cases e : j = q
    · rw [if_pos e, e]; exact at_set hql
    · rw [if_neg e]; exact at_set_ne hj e
  have hlen : (l.set q y).length = l.length := List.length_set
  generalize l.set q y = m at *
  have yw : IntKind.i64.wrap ((3 : Int) + (p2 : Int)) = (3 : Int) + (p2 : Int) := IntWalk.i64_in _ (by omega)
  rw [hXX] at d0 d1 d2 g0 cC2
  have hXX2 := Lib.hid hXX
  have hlenH := Lib.hid hlen
  have hset1H := Lib.hid hset1
  clear hy hnm hX hyv hv hri hset yn ys yr hXX hlen hset1
  go_wp2_with (fail)
  refine (cq _).mono ?_
  rintro e wq ⟨rfl, rfl⟩
  go_wp2_with (fail)
  obtain ⟨G, hG⟩ : ∃ G, w2.heap.size = G := ⟨_, rfl⟩
  go_region_held3 (fun W => W.cell? ⟨lb, lo + q * 3, none⟩ = some (.string X.n)) (first | exact g0 | exact d0 | go_keep) (first
    | (go_at_call 28; refine (PX2 _).mono ?_; rintro e w' ⟨rfl, rfl⟩; have PX3 := cp1)
    | (go_at_call 28; refine (cp1 _).mono ?_; rintro e w' ⟨rfl, rfl⟩; have PX2 := cp2))
  all_goals
    clear d0 d1 d2 g0
    obtain ⟨wA, hwA⟩ : ∃ W, W = (w2.alloc (.cells #[.string X.n, .int .i64 (p1 : Int), .int .i64 ((3 : Int) + (p2 : Int))] 24)).drew := ⟨_, rfl⟩
    have hVA : VolAt wA w2.heap.size ⟨X.n, (p1 : Int), (3 : Int) + (p2 : Int)⟩ := by rw [hwA]; exact ⟨(VolAt.made w2 ⟨X.n, (p1 : Int), (3 : Int) + (p2 : Int)⟩ 24).c0, (VolAt.made w2 ⟨X.n, (p1 : Int), (3 : Int) + (p2 : Int)⟩ 24).c1, (VolAt.made w2 ⟨X.n, (p1 : Int), (3 : Int) + (p2 : Int)⟩ 24).c2, (VolAt.made w2 ⟨X.n, (p1 : Int), (3 : Int) + (p2 : Int)⟩ 24).lt⟩
    have hBA : Below w2.heap.size w2 wA := by rw [hwA]; exact ((Below.refl _ _).alloc (Nat.le_refl _) _).drew
    have rlA := rl.below hBA
    have BA := below_c B2 hBA
    clear cp1 cp2 cq
    go_wp2_with (fail)
    rw [← hwA]
    rw [hG] at hVA
    try rw [hG]
    have hBA' := hBA
    clear hwA hBA
    refine (cC1 _ _ rlA).mono ?_
    rintro e w3 ⟨vm, rfl, om, b3⟩
    have B3 := below_c BA b3
    have rm := om.reads
    have rl3 := rlA.below b3
    have V3 := hVA.below b3 hVA.lt
    obtain ⟨am, cam, hvm, clm⟩ := items3 rm
    rw [hlenH.out] at hvm
    subst hvm
    have clm' := fun i (hi : i < l.length) => clm i (by rw [hlenH.out]; exact hi)
    obtain ⟨al', cal', hvl, cll3⟩ := items3 rl3
    have hal : some (⟨lb, lo, none⟩ : Addr) = al' := by simp at hvl; exact hvl.1
    subst hal
    have hB2r : Below w2.heap.size w2 w3 := hBA'.trans (b3.mono hBA'.size)
    clear cC1 om b3 rlA hVA clm hvl BA cll rl
    go_wp2_with (fail)
    go_loopw [17] (fun i wr => ∃ k : Nat, k ≤ l.length ∧ i = .int .i64 (k : Int) ∧ Below w3.heap.size w3 wr) (fun i _ => l.length - (intOf i).toNat)
    case atStart => exact ⟨0, by omega, rfl, Below.refl _ _⟩
    case round =>
      obtain ⟨k, hk, rfl, hB⟩ := hrel
      rename World => wr
      have hBs := hB.size
      by_cases hlt : k < l.length
      · have x1 : (k : Int) < (l.length : Int) := by omega
        obtain ⟨mb, mo, rfl, hmb, hmc⟩ := clm' k hlt
        obtain ⟨c0, c1, c2⟩ := hmc wr hB
        obtain ⟨k0, k1, k2, _⟩ := V3.below hB V3.lt
        obtain ⟨lb', lo', hll, hlb', hlc'⟩ := cll3 k hlt
        simp at hll
        obtain ⟨rfl, rfl⟩ := hll
        obtain ⟨f0, f1, f2⟩ := hlc' wr hB
        have hg := eql_vol_guard
        by_cases hkq : k = q
        · have e1 : ((k : Int) == (q : Int)) = true := by rw [beq_iff_eq]; omega
          have e1n : (k == q) = true := by rw [beq_iff_eq]; exact hkq
          have e2 : ((k : Int) != (q : Int)) = false := by rw [bne_eq_false_iff_eq]; omega
          have e2n : (k != q) = false := by rw [bne_eq_false_iff_eq]; exact hkq
          have hq1 := fun W => hqv W (at_ m k)
          rw [show decide (at_ m k = y) = true by rw [decide_eq_true_eq, hset1H.out k hlt, if_pos hkq]] at hq1
          generalize at_ m k = x at *
          clear hkq hqv
          go_wp2_with (fail)
          go_quiet (fail)
          have hB' := below_c hB (drew_below wr nq)
          go_wp2_with (fail)
          go_roundw
          case rel => exact ⟨k + 1, by omega, by go_num, hB'⟩
          case measure => simp [intOf]; omega
        · have e1 : ((k : Int) == (q : Int)) = false := by rw [beq_eq_false_iff_ne]; omega
          have e1n : (k == q) = false := by rw [beq_eq_false_iff_ne]; exact hkq
          have e2 : ((k : Int) != (q : Int)) = true := by rw [bne_iff_ne]; omega
          have e2n : (k != q) = true := by rw [bne_iff_ne]; exact hkq
          have hq1 := fun W => eql_vol W (at_ m k) (at_ l k)
          rw [show decide (at_ m k = at_ l k) = true by rw [decide_eq_true_eq, hset1H.out k hlt, if_neg hkq]] at hq1
          generalize at_ m k = x at *
          generalize at_ l k = x' at *
          clear hkq hqv
          go_wp2_with (fail)
          go_quiet (fail)
          have hB' := below_c hB (drew_below wr nq)
          go_wp2_with (fail)
          go_roundw
          case rel => exact ⟨k + 1, by omega, by go_num, hB'⟩
          case measure => simp [intOf]; omega
      · have x1 : ¬ ((k : Int) < (l.length : Int)) := by omega
        obtain rfl : k = l.length := by omega
        have f := hlc wr (hB2r.trans (hB.mono hB2r.size))
        obtain ⟨f0, f1, f2⟩ := f
        rw [hXX2.out] at f0 f1 f2
        have rmr := rm.below hB
        have rlr := rl3.below hB
        have BW := below_c B3 hB
        have hqq : (q : Int) < (l.length : Int) := by omega
        go_wp2_with (fail)
        refine (cC2 _ _ rmr).mono ?_
        rintro e w5 ⟨vb, rfl, ob, b5⟩
        have B5 := below_c BW b5
        go_wp2_with (fail)
        refine (cS _ _ _ ob.reads (rlr.below b5)).mono ?_
        rintro e w6 ⟨rfl, b6⟩
        have b56 := below_c b5 b6
        go_wp2_with (fail)
        refine (cRt _ _ (rmr.below b56)).mono ?_
        rintro e w7 ⟨rfl, b7⟩
        go_wp2_with (fail)
        go_ret
        exact ⟨rfl, below_c BW (below_c b56 b7)⟩
end Go.Proofs.Ytfmgoamgcjipkaa
