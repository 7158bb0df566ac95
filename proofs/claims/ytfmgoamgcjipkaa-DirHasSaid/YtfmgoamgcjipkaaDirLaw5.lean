/- dir's laws: what is added is found, what is removed is not. -/
import Derived.Test.YtfmgoamgcjipkaaDirLaw4
import Derived.Test.YtfmgoamgcjipkaaDirFit2
import Derived.Test.YtfmgoamgcjipkaaIntRng
namespace Go.Proofs.Ytfmgoamgcjipkaa
open Go.RowKit
set_option linter.unusedVariables false
set_option linter.unusedSimpArgs false
open Dr

theorem find_call (v : Value) (l : List Vol) (s : ByteArray) (n : Int) (w : World) (hR : ReadsE volE w v l) (hl : l.length ≤ 900) (hn : findI l s = n) : Calls Try.prog 24 #[v, .string s] w (Tells w (.int .i64 n)) := by
  have := find_any v l s w hR (by omega); rwa [hn] at this
set_option maxRecDepth 100000 in
set_option maxHeartbeats 16000000 in
theorem has_walk (v1 : Value) (l1 : List Vol) (v2 : Value) (n1 : List Int) (nm sz : Int) (w : World) (R1 : ReadsE volE w v1 l1) (R2 : Reads w v2 (n1.map (.int .i64)))
    (I1 : ∀ x ∈ l1, In64 x.s ∧ In64 x.r) (I2 : ∀ i, i < n1.length → -9223372036854775808 ≤ n1.getD i 0 ∧ n1.getD i 0 ≤ 9223372036854775807)
    (s1 : l1.length ≤ 140737488351232) (s2 : n1.length ≤ 140737488351232) (r3 : -9223372036854775808 ≤ nm ∧ nm ≤ 9223372036854775807) (r4 : -9223372036854775808 ≤ sz ∧ sz ≤ 9223372036854775807) :
    Calls Try.prog 5 #[v1, v2, .int .i64 nm, .int .i64 sz] w (Tells w (.bool true)) := by
  have c1 := fun W (hW : Below w.heap.size w W) => fit_any v1 l1 v2 n1 W (R1.below hW) I1 (R2.below hW) I2 s1 s2
  obtain ⟨t, ht, cN⟩ := name_any nm r3.1 r3.2
  obtain ⟨p, hp, _, cp⟩ := pick_nat sz 4097 r4.1 r4.2 (by decide) (by decide)
  have hyv : volB 200 ⟨t, (p : Int), 5⟩ = true := volB_of t ht _ _ (by omega) (.inr (by decide))
  have ht6 := (nameB_size ht).2
  clear R1 R2 I1 I2
  go_enter Try.func5, Try.ntmps5
  go_wp2_with (fail)
  refine (dawake_any _).mono ?_
  rintro e w1 ⟨rfl, B1⟩
  go_wp2_with (fail)
  refine (c1 _ B1).mono ?_
  rintro e w2 ⟨l, vl, rfl, ol, b2, hr⟩
  have B2 := below_c B1 b2
  have rl2 := ol.reads
  clear c1 ol b2 B1
  go_wp2_with (fail)
  refine (cN _).mono ?_
  rintro e w3 ⟨rfl, b3⟩
  have B3 := below_c B2 b3
  have rl3 := rl2.below b3
  go_wp2_with (fail)
  refine (cp _).mono ?_
  rintro e wq ⟨rfl, rfl⟩
  have BA : Below w3.heap.size w3 (w3.alloc (.cells #[.string t, .int .i64 (p : Int), .int .i64 5] 24)) := (Below.refl _ _).alloc (Nat.le_refl _) _
  have VA := VolAt.made w3 ⟨t, (p : Int), 5⟩ 24
  obtain ⟨h8, hv, hri⟩ := right_parts hr
  have cS : ∀ v u W, ReadsE volE W v l → ReadsE volE W u l → Calls Try.prog 20 #[v, u] W (Tells W (.bool true)) := fun v u W h1 h2 => by
    have := same_any v u l l W h1 h2 (by omega); rw [decide_eq_true rfl] at this; exact this
  obtain ⟨y, hy⟩ : ∃ y : Vol, y = ⟨t, (p : Int), 5⟩ := ⟨_, rfl⟩
  have yn : y.n = t := by rw [hy]
  have ys : y.s = (p : Int) := by rw [hy]
  have yr : y.r = 5 := by rw [hy]
  have cAdd : ∀ v W, ReadsE volE W v l → Calls Try.prog 10 #[v, .agg #[.string t, .int .i64 (p : Int), .int .i64 5]] W (GivesVE W (addL l y) (addE l y)) := fun v W h => by
    have := add_any v l y W h (by omega) (by rw [yn]; omega); unfold Vol.v at this; rw [yn, ys, yr] at this; exact this
  have cChg : ∀ v W, ReadsE volE W v l → Calls Try.prog 12 #[v, .agg #[.string t, .int .i64 (p : Int), .int .i64 5]] W (GivesVE W (chgL l y) (chgE l y)) := fun v W h => by
    have := change_any v l y W h (by omega); unfold Vol.v at this; rw [yn, ys, yr] at this; exact this
  have cRem : ∀ v W, ReadsE volE W v l → Calls Try.prog 14 #[v, .string t] W (GivesVE W (remL l t) (remE l t)) := fun v W h => remove_any v l t W h (by omega)
  have hqv : ∀ (W : World) (x : Vol), (Op.equalIn 10000 24 (.agg #[.string x.n, .int .i64 x.s, .int .i64 x.r]) (.agg #[.string t, .int .i64 (p : Int), .int .i64 5])).run Try.prog W = .ok (decide (x = y)) W := fun W x => by
    have := eql_vol W x y
    rw [yn, ys, yr] at this
    exact this
  rw [← hy] at hyv
  have hg := eql_vol_guard
  by_cases hf : findN l t < l.length
  · obtain ⟨q, hq⟩ : ∃ q, findN l t = q := ⟨_, rfl⟩
    have hfn : findI l t = (q : Int) := by rw [findI_good hf, hq]
    have hql : q < l.length := by rw [← hq]; exact hf
    have hqn : (at_ l q).n = t := by rw [← hq]; exact findN_at hf
    have hyq : y.n = (at_ l q).n := by rw [yn, hqn]
    have fy : findN l y.n = q := by rw [yn]; exact hq
    have cF := fun v W h => find_call v l t (q : Int) W h (by omega) hfn
    rw [show addL l y = [] by rw [addL, show addE l y = 182 by unfold addE; rw [yn, ht, if_pos rfl, if_pos hf]]; rfl, show addE l y = 182 by unfold addE; rw [yn, ht, if_pos rfl, if_pos hf]] at cAdd
    rw [show chgL l y = l.set q y by rw [chgL, fy, if_pos hql], show chgE l y = 0 by rw [chgE, fy, if_pos hql]] at cChg
    rw [show remL l t = l.eraseIdx q by rw [remL, hq, if_pos hql], show remE l t = 0 by rw [remE, hq, if_pos hql]] at cRem
    have hset := set_right hr hql hyq hyv
    have hers := erase_right hr hql
    have hel : (l.eraseIdx q).length + 1 = l.length := by rw [List.length_eraseIdx_of_lt hql]; omega
    have hsl : (l.set q y).length = l.length := List.length_set
    have cRt1 := fun v W h => right_any 200 v (l.set q y) W h hset (right_vols hset)
    have cRt2 := fun v W h => right_any 200 v (l.eraseIdx q) W h hers (right_vols hers)
    have cF1 := fun v W h => find_call v (l.set q y) t (q : Int) W h (by omega) (by
      have := find_set hr hql hyq hyv
      rw [yn] at this
      rw [findI_good (by rw [this, hsl]; exact hql), this])
    have cF2 := fun v W h => find_call v (l.eraseIdx q) t (-1) W h (by omega) (by
      have := erase_none hri hql
      rw [hqn] at this
      exact findI_bad (by rw [this]; omega))
    have hmq : at_ (l.set q y) q = y := at_set hql
    obtain ⟨X, hX⟩ : ∃ X, at_ l q = X := ⟨_, rfl⟩
    have hbk := erase_add hri hql
    have hnX := name_vol hr hql
    have hsz6 := (nameB_size hnX).2
    have cBk : ∀ v W, ReadsE volE W v (l.eraseIdx q) → Calls Try.prog 10 #[v, .agg #[.string X.n, .int .i64 X.s, .int .i64 X.r]] W (GivesVE W l 0) := fun v W h => by
      have := add_any v (l.eraseIdx q) (at_ l q) W h (by omega) (by omega)
      have e : addE (l.eraseIdx q) (at_ l q) = 0 := by
        unfold addE
        rw [hnX, if_pos rfl, if_neg (by rw [erase_none hri hql]; omega), if_neg (by omega)]
      rw [show addL (l.eraseIdx q) (at_ l q) = l by rw [addL, if_pos e, hbk], e, hX] at this
      exact this
    have hqy := fun W => hqv W (at_ (l.set q y) q)
    rw [hmq, decide_eq_true rfl] at hqy
    generalize l.set q y = m at *
    generalize l.eraseIdx q = r at *
    have eX := Lib.hid hX
    have hslH := Lib.hid hsl
    have helH := Lib.hid hel
    have hmqH := Lib.hid hmq
    have ysH := Lib.hid ys
    have yrH := Lib.hid yr
    have ynH := Lib.hid yn
    have hel2 : IntKind.i64.wrap ((l.length : Int) - 1) = (r.length : Int) := by rw [IntWalk.i64_in _ (by omega)]; omega
    have tq0 : (0 : Int) ≤ (q : Int) := by omega
    have tql : (q : Int) < (l.length : Int) := by omega
    clear hq hfn hqn hyq fy hset hers hel hsl hmq hX hbk hnX hy yn ys yr hyv hf hqv ht
    go_wp2_with (fail)
    refine (cF _ _ (rl3.below BA)).mono ?_
    rintro e w4 ⟨rfl, b4⟩
    have D4 := BA.trans (b4.mono BA.size)
    have V4 := VA.below b4 VA.lt
    have rl4 := rl3.below D4
    obtain ⟨G, hG⟩ : ∃ G, w3.heap.size = G := ⟨_, rfl⟩
    rw [hG] at V4
    try rw [hG]
    obtain ⟨k0, k1, k2, _⟩ := id V4
    go_wp2_with (fail)
    refine (cAdd _ _ rl4).mono ?_
    rintro e w5 ⟨va, rfl, oa, b5⟩
    have V5 := V4.below b5 V4.lt
    have rl5 := rl4.below b5
    obtain ⟨k0, k1, k2, _⟩ := id V5
    go_wp2_with (fail)
    refine (cChg _ _ rl5).mono ?_
    rintro e w6 ⟨vc, rfl, oc, b6⟩
    have V6 := V5.below b6 V5.lt
    have rl6 := rl5.below b6
    have rc6 := oc.reads
    obtain ⟨k0, k1, k2, _⟩ := id V6
    go_wp2_with (fail)
    refine (cRem _ _ rl6).mono ?_
    rintro e w7 ⟨vr, rfl, or_, b7⟩
    have V7 := V6.below b7 V6.lt
    have rl7 := rl6.below b7
    have rc7 := rc6.below b7
    have rr7 := or_.reads
    have D5 := below_c D4 b5
    have D6 := below_c D5 b6
    have D7 := below_c D6 b7
    have BB := below_c B3 D7
    clear cF cAdd cChg cRem V4 V5 V6 oa oc or_ rl2 rl3 rl4 rl5 rl6 rc6 b3 b4 b5 b6 b7 D4 D5 D6 BA VA B2 B3 k0 k1 k2
    obtain ⟨ac, cac, hvc, clc⟩ := items3 rc7
    rw [hslH.out] at hvc
    subst hvc
    obtain ⟨ar, car, rfl, _⟩ := items3 rr7
    obtain ⟨al, cal, rfl, cll⟩ := items3 rl7
    obtain ⟨cb, co, rfl, hcb, hcc⟩ := clc q (by rw [hslH.out]; exact hql)
    rw [hmqH.out, ynH.out, ysH.out, yrH.out] at hcc
    rw [ynH.out, ysH.out, yrH.out] at hqy
    obtain ⟨lb, lo, rfl, hlb, hlc⟩ := cll q hql
    rw [eX.out] at hlc
    clear clc cll
    go_wp2_with (fail)
    refine wp_region_cls (Below w7.heap.size w7) (by kernel_rfl) (by kernel_rfl) (Below.refl _ _).drew ?_
    intro Z f hne hD hE
    have k0 : ∀ z, (f z).cell? ⟨G, 0, none⟩ = some (.string t) := fun z => (V7.below (hD z) V7.lt).c0
    have k1 : ∀ z, (f z).cell? ⟨G, 1, none⟩ = some (.int .i64 (p : Int)) := fun z => (V7.below (hD z) V7.lt).c1
    have k2 : ∀ z, (f z).cell? ⟨G, 2, none⟩ = some (.int .i64 5) := fun z => (V7.below (hD z) V7.lt).c2
    have j0 := fun z => (hcc (f z) (hD z)).1
    have j1 := fun z => (hcc (f z) (hD z)).2.1
    have j2 := fun z => (hcc (f z) (hD z)).2.2
    have t1 := fun z => toQB hD hE z (cRt1 _ (f z) (rc7.below (hD z)))
    have t2 := fun z => toQB hD hE z (cRt2 _ (f z) (rr7.below (hD z)))
    have t3 := fun z => toQB hD hE z (cF2 _ (f z) (rr7.below (hD z)))
    have t4 := fun z => toQB hD hE z (cF1 _ (f z) (rc7.below (hD z)))
    clear cRt1 cRt2 cF1 cF2
    try simp only [List.append]
    repeat (go_big_quiet_step (first
      | (go_at_call 9; first | (with_reducible exact t1 _) | (with_reducible exact t2 _))
      | (go_at_call 24; first | (with_reducible exact t3 _) | (with_reducible exact t4 _))))
    refine wpQuiet_nil ?_
    intro _ hw'
    obtain ⟨zq, hw''⟩ := hw'
    subst hw''
    have b8 := hD zq
    have rr8 := rr7.below b8
    have rl8 := rl7.below b8
    obtain ⟨d0, d1, d2⟩ := hlc (f zq) b8
    clear k0 k1 k2 j0 j1 j2 t1 t2 t3 t4
    generalize f zq = w8 at *
    clear hD hE hne
    go_wp2_with (fail)
    refine (cBk _ _ rr8).mono ?_
    rintro e w9 ⟨vb, rfl, ob, b9⟩
    have b89 := below_c b8 b9
    go_wp2_with (fail)
    refine (cS _ _ _ ob.reads (rl8.below b9)).mono ?_
    rintro e w10 ⟨rfl, b10⟩
    go_wp2_with (fail)
    go_ret
    exact ⟨rfl, below_c BB (below_c b89 b10)⟩
  · have hno : findN l t = l.length := by have := findN_le l t; omega
    have cF := fun v W h => find_call v l t (-1) W h (by omega) (findI_bad hf)
    rw [show chgE l y = 183 by rw [chgE, yn, if_neg hf]] at cChg
    rw [show remE l t = 183 by rw [remE, if_neg hf]] at cRem
    have hnoy : findN l y.n = l.length := by rw [yn]; exact hno
    by_cases h8e : l.length = 8
    · rw [show addE l y = 184 by unfold addE; rw [yn, ht, if_pos rfl, if_neg hf, if_pos (by omega)]] at cAdd
      generalize addL l y = m at *
      generalize chgL l y = lc at *
      generalize remL l t = lr at *
      have tl8 : ((l.length : Int) == 8) = true := by rw [beq_iff_eq]; omega
      have tl8n : (l.length == 8) = true := by rw [beq_iff_eq]; exact h8e
      clear hno hnoy h8e hf hy yn ys yr hyv hqv ht
      go_wp2_with (fail)
      refine (cF _ _ (rl3.below BA)).mono ?_
      rintro e w4 ⟨rfl, b4⟩
      have D4 := BA.trans (b4.mono BA.size)
      have V4 := VA.below b4 VA.lt
      have rl4 := rl3.below D4
      obtain ⟨G, hG⟩ : ∃ G, w3.heap.size = G := ⟨_, rfl⟩
      rw [hG] at V4
      try rw [hG]
      obtain ⟨k0, k1, k2, _⟩ := id V4
      go_wp2_with (fail)
      refine (cAdd _ _ rl4).mono ?_
      rintro e w5 ⟨va, rfl, oa, b5⟩
      have V5 := V4.below b5 V4.lt
      have rl5 := rl4.below b5
      have ra5 := oa.reads
      obtain ⟨k0, k1, k2, _⟩ := id V5
      go_wp2_with (fail)
      refine (cChg _ _ rl5).mono ?_
      rintro e w6 ⟨vc, rfl, oc, b6⟩
      have V6 := V5.below b6 V5.lt
      have rl6 := rl5.below b6
      have rc6 := oc.reads
      obtain ⟨k0, k1, k2, _⟩ := id V6
      go_wp2_with (fail)
      refine (cRem _ _ rl6).mono ?_
      rintro e w7 ⟨vr, rfl, or_, b7⟩
      have V7 := V6.below b7 V6.lt
      have rl7 := rl6.below b7
      have ra7 := (ra5.below b6).below b7
      have rc7 := rc6.below b7
      have rr7 := or_.reads
      have D5 := below_c D4 b5
      have D6 := below_c D5 b6
      have D7 := below_c D6 b7
      have BB := below_c B3 D7
      clear cF cAdd cChg cRem V4 V5 V6 oa oc or_ rl2 rl3 rl4 rl5 rl6 rc6 b3 b4 b5 b6 b7 D4 D5 D6 BA VA B2 B3 k0 k1 k2
      obtain ⟨al, cal, rfl, cll⟩ := items3 rl7
      go_wp2_with (fail)
      go_ret
      exact ⟨rfl, BB⟩
    · have ea : addE l y = 0 := by unfold addE; rw [yn, ht, if_pos rfl, if_neg hf, if_neg (by omega)]
      rw [show addL l y = insL l y by rw [addL, if_pos ea], ea] at cAdd
      have hm := add_right hr hyv hnoy (by omega)
      have hmr := (right_parts hm).2.2
      have hml : (insL l y).length = l.length + 1 := ins_length
      have hfy := find_mem hmr (in_ins_new (l := l) (v := y))
      rw [yn] at hfy
      have hfo := fun (i : Nat) (hi : i < l.length) => find_mem hmr (in_ins_old (l := l) (v := y) hi)
      have hrem := add_rem hri hnoy
      rw [yn] at hrem
      have cRt := fun v W h => right_any 200 v (insL l y) W h hm (right_vols hm)
      have cFm := fun v s W h => find_any v (insL l y) s W h (by omega)
      have cRm : ∀ v W, ReadsE volE W v (insL l y) → Calls Try.prog 14 #[v, .string t] W (GivesVE W l 0) := fun v W h => by
        have := remove_any v (insL l y) t W h (by omega)
        rw [show remL (insL l y) t = l by rw [remL, if_pos hfy.1, hrem], show remE (insL l y) t = 0 by rw [remE, if_pos hfy.1]] at this
        exact this
      have hqy := fun W => hqv W y
      rw [decide_eq_true rfl, yn, ys, yr] at hqy
      generalize insL l y = m at *
      obtain ⟨K, hK⟩ : ∃ K, findN m t = K := ⟨_, rfl⟩
      have cFt := fun v W h => find_call v m t (K : Int) W h (by omega) (by rw [findI_good hfy.1, hK])
      rw [hK] at hfy
      have hKm : K < m.length := hfy.1
      have hKy := Lib.hid hfy.2
      have hmlH := Lib.hid hml
      have ysH := Lib.hid ys
      have yrH := Lib.hid yr
      have ynH := Lib.hid yn
      have hfoH := Lib.hid hfo
      have hwl : IntKind.i64.wrap ((l.length : Int) + 1) = (m.length : Int) := by rw [IntWalk.i64_in _ (by omega)]; omega
      have tl8 : ((l.length : Int) == 8) = false := by rw [beq_eq_false_iff_ne]; omega
      have tl8n : (l.length == 8) = false := by rw [beq_eq_false_iff_ne]; exact h8e
      have hm9 : m.length ≤ 9 := by omega
      have tK1 : (K : Int) < (m.length : Int) := by omega
      have tK2 : decide ((K : Int) < 0) = false := by rw [decide_eq_false_iff_not]; omega
      have tK3 : decide ((m.length : Int) ≤ (K : Int)) = false := by rw [decide_eq_false_iff_not]; omega
      have tK4 : decide (m.length ≤ K) = false := by rw [decide_eq_false_iff_not]; omega
      generalize chgL l y = lc at *
      generalize remL l t = lr at *
      clear hno hnoy h8e hf hy yn ys yr hyv hqv ht ea hm hmr hml hfy hfo hrem hK
      go_wp2_with (fail)
      refine (cF _ _ (rl3.below BA)).mono ?_
      rintro e w4 ⟨rfl, b4⟩
      have D4 := BA.trans (b4.mono BA.size)
      have V4 := VA.below b4 VA.lt
      have rl4 := rl3.below D4
      obtain ⟨G, hG⟩ : ∃ G, w3.heap.size = G := ⟨_, rfl⟩
      rw [hG] at V4
      try rw [hG]
      obtain ⟨k0, k1, k2, _⟩ := id V4
      go_wp2_with (fail)
      refine (cAdd _ _ rl4).mono ?_
      rintro e w5 ⟨va, rfl, oa, b5⟩
      have V5 := V4.below b5 V4.lt
      have rl5 := rl4.below b5
      have ra5 := oa.reads
      obtain ⟨k0, k1, k2, _⟩ := id V5
      go_wp2_with (fail)
      refine (cChg _ _ rl5).mono ?_
      rintro e w6 ⟨vc, rfl, oc, b6⟩
      have V6 := V5.below b6 V5.lt
      have rl6 := rl5.below b6
      have rc6 := oc.reads
      obtain ⟨k0, k1, k2, _⟩ := id V6
      go_wp2_with (fail)
      refine (cRem _ _ rl6).mono ?_
      rintro e w7 ⟨vr, rfl, or_, b7⟩
      have V7 := V6.below b7 V6.lt
      have rl7 := rl6.below b7
      have ra7 := (ra5.below b6).below b7
      have rc7 := rc6.below b7
      have rr7 := or_.reads
      have D5 := below_c D4 b5
      have D6 := below_c D5 b6
      have D7 := below_c D6 b7
      have BB := below_c B3 D7
      clear cF cAdd cChg cRem V4 V5 V6 oa oc or_ rl2 rl3 rl4 rl5 rl6 rc6 b3 b4 b5 b6 b7 D4 D5 D6 BA VA B2 B3 k0 k1 k2
      obtain ⟨al, cal, rfl, cll⟩ := items3 rl7
      obtain ⟨am, cam, rfl, clm⟩ := items3 ra7
      go_wp2_with (fail)
      refine (cRt _ _ ra7).mono ?_
      rintro e w8 ⟨rfl, b8⟩
      obtain ⟨k0, k1, k2, _⟩ := V7.below b8 V7.lt
      go_wp2_with (fail)
      refine (cFt _ _ (ra7.below b8)).mono ?_
      rintro e w9 ⟨rfl, b9⟩
      have b79 := below_c b8 b9
      obtain ⟨k0, k1, k2, _⟩ := V7.below b79 V7.lt
      obtain ⟨mb, mo, rfl, hmb, hmc⟩ := clm K hKm
      have hmcK := hmc w9 b79
      go_wp2_with (fail)
      refine wp_region_cls (Below w9.heap.size w9) (by kernel_rfl) (by kernel_rfl) (Below.refl _ _).drew ?_
      intro Z f hne hD hE
      have V9 := V7.below b79 V7.lt
      have k0 : ∀ z, (f z).cell? ⟨G, 0, none⟩ = some (.string t) := fun z => (V9.below (hD z) V9.lt).c0
      have k1 : ∀ z, (f z).cell? ⟨G, 1, none⟩ = some (.int .i64 (p : Int)) := fun z => (V9.below (hD z) V9.lt).c1
      have k2 : ∀ z, (f z).cell? ⟨G, 2, none⟩ = some (.int .i64 5) := fun z => (V9.below (hD z) V9.lt).c2
      have hmz := fun z => hmc (f z) (below_c b79 (hD z))
      rw [hKy.out, ynH.out, ysH.out, yrH.out] at hmz
      have j0 := fun z => (hmz z).1
      have j1 := fun z => (hmz z).2.1
      have j2 := fun z => (hmz z).2.2
      clear hmz hmcK
      try simp only [List.append]
      repeat (go_big_quiet_step (fail))
      refine wpQuiet_nil ?_
      intro _ hw'
      obtain ⟨zq, hw''⟩ := hw'
      subst hw''
      have b7q := below_c b79 (hD zq)
      clear k0 k1 k2 j0 j1 j2 hmc b8 b9 b79 hqy V9
      generalize f zq = wq at *
      clear hD hE hne
      go_wp2_with (fail)
      go_loopw [22] (fun i wr => ∃ k : Nat, k ≤ l.length ∧ i = .int .i64 (k : Int) ∧ Below w7.heap.size w7 wr) (fun i _ => l.length - (intOf i).toNat)
      case atStart => exact ⟨0, by omega, rfl, b7q⟩
      case round =>
        obtain ⟨k, hk, rfl, hB⟩ := hrel
        rename World => wr
        have hBs := hB.size
        by_cases hlt : k < l.length
        · have x1 : (k : Int) < (l.length : Int) := by omega
          obtain ⟨lb, lo, rfl, hlb, hlc⟩ := cll k hlt
          obtain ⟨d0, d1, d2⟩ := hlc wr hB
          obtain ⟨hJ1, hJ2⟩ := hfoH.out k hlt
          have cFk := cFm _ (at_ l k).n wr (ra7.below hB)
          rw [findI_good hJ1] at cFk
          generalize findN m (at_ l k).n = J at *
          have hmJ := clm J hJ1
          rw [hJ2] at hmJ
          obtain ⟨mb', mo', hmm, hmb', hmc'⟩ := hmJ
          simp at hmm
          obtain ⟨rfl, rfl⟩ := hmm
          have tJ1 : (J : Int) < (m.length : Int) := by omega
          have tJ2 : decide ((J : Int) < 0) = false := by rw [decide_eq_false_iff_not]; omega
          have tJ3 : decide ((m.length : Int) ≤ (J : Int)) = false := by rw [decide_eq_false_iff_not]; omega
          have tJ4 : decide (m.length ≤ J) = false := by rw [decide_eq_false_iff_not]; omega
          have hqx := fun W => eql_vol W (at_ l k) (at_ l k)
          rw [decide_eq_true rfl] at hqx
          clear hJ2 tK1 tK2 tK3 tK4
          generalize at_ l k = x at *
          go_wp2_with (fail)
          refine cFk.mono ?_
          rintro e wj ⟨rfl, bj⟩
          have hBj := below_c hB bj
          obtain ⟨d0, d1, d2⟩ := hlc wj hBj
          obtain ⟨c0, c1, c2⟩ := hmc' wj hBj
          go_wp2_with (fail)
          go_quiet (fail)
          have hBq := below_c hBj (drew_below wj nq)
          go_wp2_with (fail)
          go_roundw
          case rel => exact ⟨k + 1, by omega, by go_num, hBq⟩
          case measure => simp [intOf]; omega
        · have x1 : ¬ ((k : Int) < (l.length : Int)) := by omega
          obtain rfl : k = l.length := by omega
          obtain ⟨k0, k1, k2, _⟩ := V7.below hB V7.lt
          go_wp2_with (fail)
          refine (cRm _ _ (ra7.below hB)).mono ?_
          rintro e wj ⟨vb, rfl, ob, bj⟩
          have hBj := below_c hB bj
          go_wp2_with (fail)
          refine (cS _ _ _ ob.reads (rl7.below hBj)).mono ?_
          rintro e wk ⟨rfl, bk⟩
          go_wp2_with (fail)
          go_ret
          exact ⟨rfl, below_c BB (below_c hBj bk)⟩
end Go.Proofs.Ytfmgoamgcjipkaa
