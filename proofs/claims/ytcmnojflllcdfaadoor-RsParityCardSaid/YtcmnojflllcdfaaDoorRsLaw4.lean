/- rs's law: of data and their parity any k shards decode to the data. -/
import Derived.Test.YtcmnojflllcdfaaDoorRsLaw3
namespace Go.Proofs.YtcmnojflllcdfaaDoor
open Go.RowKit
set_option linter.unusedVariables false
set_option linter.unusedSimpArgs false

theorem Good.lose {data all : List ByteArray} {k m : Nat} {hv : List Bool} (g : Good data k m all hv) (x : Nat) (s : ByteArray) : Good data k m (all.set x s) (hv.set x false) :=
  ⟨by rw [List.length_set, g.la], by rw [List.length_set, g.lh], fun i hi h => by
    have hne : x ≠ i := fun e => by
      subst e
      rw [List.getD_eq_getElem?_getD, List.getElem?_set_self (by rw [g.lh]; exact hi)] at h
      cases h
    rw [List.getD_eq_getElem?_getD, List.getElem?_set_ne hne, ← List.getD_eq_getElem?_getD] at h
    rw [List.getD_eq_getElem?_getD, List.getElem?_set_ne hne, ← List.getD_eq_getElem?_getD]
    exact g.h i hi h⟩
theorem Fits.set {l : List ByteArray} (h : Fits l) (x : Nat) (s : ByteArray) (hs : s.size ≤ 140737488351232) : Fits (l.set x s) := by
  refine ⟨by rw [List.length_set]; exact h.n, fun i hi => ?_⟩
  rw [List.length_set] at hi
  rw [List.getD_eq_getElem?_getD]
  by_cases e : x = i
  · subst e; rw [List.getElem?_set_self hi]; simp only [Option.getD_some]; omega
  · rw [List.getElem?_set_ne e, ← List.getD_eq_getElem?_getD]; exact h.m i hi
set_option maxRecDepth 100000 in
set_option maxHeartbeats 4000000 in
theorem back_walk (vraw : Value) (raw : List ByteArray) (k : Int) (m : Int) (long : Int) (vlost : Value) (lost : List Int) (junk : ByteArray) (w : World) (ht : Tabs w) (Rraw : Reads w vraw (tx raw)) (Fraw : Fits raw) (hk : -9223372036854775808 ≤ k ∧ k ≤ 9223372036854775807) (hm : -9223372036854775808 ≤ m ∧ m ≤ 9223372036854775807) (hlong : -9223372036854775808 ≤ long ∧ long ≤ 9223372036854775807) (Rlost : Reads w vlost (iv lost)) (llost : lost.length ≤ 140737488351232) (xlost : ∀ i, i < lost.length → -9223372036854775808 ≤ lost.getD i 0 ∧ lost.getD i 0 ≤ 9223372036854775807) (hjunk : junk.size ≤ 140737488351232)  :
    Calls Tryd.prog 5 #[vraw, .int .i64 k, .int .i64 m, .int .i64 long, vlost, .string junk] w (Says w (.bool true)) := by
  obtain ⟨p, hp, hpk⟩ := pick3_nat k 8 hk.1 hk.2 (by decide) (by decide)
  obtain ⟨q, hq, hpm⟩ := pick3_nat m 8 hm.1 hm.2 (by decide) (by decide)
  obtain ⟨K, hK⟩ : ∃ N : Nat, N = 1 + p := ⟨_, rfl⟩
  have hK1 : 1 + (p : Int) = (K : Int) := by omega
  obtain ⟨M, hM⟩ : ∃ N : Nat, N = 1 + q := ⟨_, rfl⟩
  have hM1 : 1 + (q : Int) = (M : Int) := by omega
  have k1 : 1 ≤ K := by omega
  have k2 : K ≤ 8 := by omega
  have m1 : 1 ≤ M := by omega
  have m2 : M ≤ 8 := by omega
  clear hK hM
  obtain ⟨S, hS⟩ : ∃ S : Nat, S = K + M := ⟨_, rfl⟩
  have hS1 : (K : Int) + (M : Int) = (S : Int) := by omega
  have s1 : S ≤ 16 := by omega
  have hS' := Lib.hid hS
  clear hS
  obtain ⟨r, hr, hpl⟩ := pick3_nat long 200 hlong.1 hlong.2 (by decide) (by decide)
  obtain ⟨L, hL⟩ : ∃ N : Nat, N = 1 + r := ⟨_, rfl⟩
  have hL1 : 1 + (r : Int) = (L : Int) := by omega
  have L1 : 1 ≤ L := by omega
  have L2 : L ≤ 200 := by omega
  clear hL
  have cD := fun W v hv => data_any v raw K L W hv Fraw (by omega) (by omega)
  have rD := dataL_rect raw K L
  generalize dataL raw K L = data at *
  have fD := rD.fits (by omega) (by omega)
  obtain ⟨g1, g2, rP⟩ := enc_good rD k1 k2 m1 m2 (by omega) (by omega)
  have cP := fun W hW v hv => encode_any v data (M : Int) W hW hv fD
  rw [g1, g2] at cP
  have rW := word_rect rD k1 k2 m1 m2 (by omega) (by omega)
  have fW := rW.fits (by omega) (by omega)
  have hWd := Lib.hid (show wordL data K M = data ++ parL data K M from rfl)
  have hg0 : Good data K M (wordL data K M) (List.replicate S true) := ⟨rW.l, by rw [List.length_replicate]; exact hS'.out, fun _ _ _ => rfl⟩
  have hdec := Lib.hid (fun all hv (g : Good data K M all hv) (hc : K ≤ hv.count true) => decode_good g rD k1 k2 m1 m2 (by omega) (by omega) hc)
  have hld := Lib.hid (show data.length + (parL data K M).length ≤ 100 by rw [rD.l, rP.l]; omega)
  have lP := Lib.hid rP.l
  have cS := fun W va vb ha hb => same_any va vb data data W ha hb fD fD
  rw [sameL_self] at cS
  generalize wordL data K M = word at *
  generalize parL data K M = par at *
  have hg0' := Lib.hid hg0
  have fW' := Lib.hid fW
  have hll := fun W => Rlost.len_run (P := Tryd.prog) Tryd.underlying33 3 W
  rw [iv_length] at hll
  have hxs := Lib.hid xlost
  clear g1 g2 rP rD fD rW fW hg0 xlost
  go_enter Tryd.func5, Tryd.ntmps5
  go_wp2_with (fail)
  refine (rsawake_any _ ht).mono ?_
  rintro e w1 ⟨rfl, b1⟩
  have t1 := ht.below b1 ht.two
  go_wp2_with (fail)
  refine (hpk _).mono ?_
  rintro e wq ⟨rfl, rfl⟩
  go_wp2_with (fail)
  refine (hpm _).mono ?_
  rintro e wq ⟨rfl, rfl⟩
  go_wp2_with (fail)
  refine (hpl _).mono ?_
  rintro e wq ⟨rfl, rfl⟩
  go_wp2_with (fail)
  have q0 := Rraw.below b1
  refine (cD _ _ q0).mono ?_
  rintro e w2 ⟨v2, rfl, o2, b2⟩
  have t2 := t1.below b2 t1.two
  have r2_d := o2.reads
  go_wp2_with (fail)
  refine (cP _ t2 _ r2_d).mono ?_
  rintro e w3 ⟨v3, rfl, o3, b3⟩
  have t3 := t2.below b3 t2.two
  have r3_d := r2_d.below b3
  have r3_p := o3.reads
  have lp := fun W => (o3.reads).len_run (P := Tryd.prog) Tryd.underlying22 3 W
  rw [List.length_map, lP.out] at lp
  obtain ⟨u1, w4, u2, w5, ha1, ha2, p5, c5⟩ := word_run r3_d o3.reads (by have := hld.out; omega)
  rw [← hWd.out] at p5
  obtain ⟨w6, hmk, p6, c6⟩ := have_run w5 S (by omega)
  have bw := below_c (below_c b1 b2) b3
  have hg0 := hg0'.out
  obtain ⟨g, cap, rfl, hg1, hg2⟩ := p5.form (by rw [List.length_map, hg0.la]; omega)
  rw [List.length_map, hg0.la, ← hS'.out] at p5
  rw [List.length_map, hg0.la, ← hS'.out] at ha2
  clear hg0
  have hne5 : g ≠ w5.heap.size := by omega
  go_wp2_with (at_builtin; first | refine wpList_append_run ha1 _ _ rfl rfl rfl rfl rfl ?_ | refine wpList_append_run ha2 _ _ rfl rfl rfl rfl rfl ?_)
  go_loopw [19] (fun i wr => ∃ q : Nat, q ≤ S ∧ i = .int .i64 (q : Int) ∧ Own wr w5.heap.size 4 (.slice (some ⟨w5.heap.size, 0, none⟩) S S) (bv (hvTo S q)) ∧ Below w5.heap.size w5 wr) (fun i _ => S - (intOf i).toNat)
  case atStart => exact ⟨0, by omega, rfl, by rw [hvTo_zero]; exact p6, c6⟩
  case round =>
    obtain ⟨q, hq, rfl, hown, hbel⟩ := hrel
    by_cases hlt : q < S
    · have b1 : (q : Int) < (S : Int) := by omega
      have hcq := hown.cell (i := q) (by rw [bv_length, hvTo_length hq]; exact hlt)
      have hfq := hown.frozen q
      have hgl := hown.lt
      have hnx := Lib.hid (hvTo_succ hlt)
      go_wp2_with (fail)
      go_roundw
      case rel => exact ⟨q + 1, by omega, by go_num, by rw [hnx.out]; exact hown.set q _, hbel.setCell (Nat.le_refl _) _⟩
      case measure => simp [intOf]; omega
    · have e : q = S := by omega
      subst e
      rw [hvTo_all] at hown
      obtain ⟨wz, rfl⟩ : ∃ wz : World, wz = wr := ⟨_, rfl⟩
      have p7 := p5.after hbel
      have b7 : Below w3.heap.size w3 wz := c5.trans (hbel.mono c5.size)
      go_wp2_with (fail)
      go_loopw [20, 21] (fun i _ wr => ∃ (t : Nat) (hv : List Bool) (cur : List ByteArray), t ≤ lost.length ∧ t ≤ M ∧ i = .int .i64 (t : Int) ∧ Hid (Good data K M cur hv) ∧ Hid (Fits cur) ∧ Hid (q ≤ hv.count true + t) ∧ Own wr w3.heap.size 9 (.slice (some ⟨g, 0, none⟩) q cap) (tx cur) ∧ Own wr w5.heap.size 4 (.slice (some ⟨w5.heap.size, 0, none⟩) q q) (bv hv) ∧ Below w3.heap.size w3 wr) (fun i _ _ => lost.length - (intOf i).toNat)
      case atStart => exact ⟨0, List.replicate q true, word, by omega, by omega, rfl, hg0', fW', Lib.hid (by rw [List.count_replicate_self]; omega), p7, hown, b7⟩
      case round =>
        obtain ⟨t, hv, cur, ht1, ht2, rfl, hgd, hfc, hct, ho1, ho2, hb3⟩ := hrel
        by_cases hgo : t < lost.length ∧ t < M
        · obtain ⟨h1, h2⟩ := hgo
          have b1 : (t : Int) < (lost.length : Int) := by omega
          have b2 : (t : Int) < (M : Int) := by omega
          obtain ⟨y1, y2⟩ := hxs.out t h1
          have Rq := (Rlost.below bw).below hb3
          rcases Rq with ⟨_, e⟩ | ⟨b, off, cap', rfl, hb, hc⟩
          · have := congrArg List.length e; rw [iv_length, List.length_nil] at this; omega
          have hck := hc t (by rw [iv_length]; exact h1)
          rw [iv_getD lost h1] at hck
          have b1' : (t : Int) < ((iv lost).length : Int) := by rw [iv_length]; exact b1
          clear hc
          generalize lost.getD t 0 = x at *
          obtain ⟨p', hp', hpick⟩ := pick3_nat x (q : Int) y1 y2 (by omega) (by omega)
          have hq := hS'.out
          have hlh := hgd.out.lh
          have hcp := ho2.cell (i := p') (by rw [bv_length, hlh]; omega)
          have hfp := ho2.frozen p'
          have hcq := ho1.cell (i := p') (by rw [List.length_map, hgd.out.la]; omega)
          have hfq := ho1.frozen p'
          have hgl1 := ho1.lt
          have hgl2 := ho2.lt
          have hcf := count_off hv p' (by omega)
          have hct' : Hid (q ≤ (hv.set p' false).count true + (t + 1)) := Lib.hid (by have := hct.out; omega)
          have hst := Lib.hid (show bv (hv.set p' false) = (bv hv).set p' (.bool false) by rw [bv, bv, List.map_set])
          have hsj := Lib.hid (show tx (cur.set p' junk) = (tx cur).set p' (.string junk) by rw [tx, tx, List.map_set])
          have hgd' := Lib.hid (hgd.out.lose p' junk)
          have hfc' := Lib.hid (hfc.out.set p' junk hjunk)
          clear hq hlh hcf
          go_wp2_with (fail)
          refine (hpick _).mono ?_
          rintro e wq ⟨rfl, rfl⟩
          go_wp2_with (fail)
          go_roundw
          case rel => exact ⟨t + 1, hv.set p' false, cur.set p' junk, by omega, by omega, by go_num, hgd', hfc', hct', by rw [hsj.out]; exact (ho1.setOther (by simp [Value.ownBlock]; exact hne5) _).set p' _, by rw [hst.out]; exact (ho2.set p' _).setOther (by simp [Value.ownBlock]; exact Ne.symm hne5) _, (hb3.setCell c5.size _).setCell hg1 _⟩
          case measure => simp [intOf]; omega
        · have hq := hS'.out
          have hcK : K ≤ hv.count true := by have := hct.out; omega
          obtain ⟨e1, e2⟩ := hdec.out cur hv hgd.out hcK
          have cd := fun W hW va vh hA hh => decode_any (M : Int) va vh cur hv W hW hA hh hfc.out (by rw [hgd.out.la]; omega) (by rw [hgd.out.lh]; omega)
          rw [e1, e2] at cd
          have tr := t3.below hb3 t3.two
          have rd := r3_d.below hb3
          clear hq e1 e2 hcK
          by_cases h1 : t < lost.length
          · have b1 : (t : Int) < (lost.length : Int) := by omega
            have b2 : decide (t < M) = false := by rw [decide_eq_false_iff_not]; omega
            go_wp2_with (fail)
            refine (cd _ tr _ _ ho1.reads ho2.reads).mono ?_
            rintro e w7 ⟨v7, rfl, o7, b7⟩
            go_wp2_with (fail)
            refine (cS _ _ _ o7.reads (rd.below b7)).mono ?_
            rintro e w8 ⟨rfl, b8⟩
            go_wp2_with (fail)
            go_ret
            exact ⟨rfl, below_c (below_c (below_c bw hb3) b7) b8⟩
          · have b1 : decide (t < lost.length) = false := by rw [decide_eq_false_iff_not]; omega
            go_wp2_with (fail)
            refine (cd _ tr _ _ ho1.reads ho2.reads).mono ?_
            rintro e w7 ⟨v7, rfl, o7, b7⟩
            go_wp2_with (fail)
            refine (cS _ _ _ o7.reads (rd.below b7)).mono ?_
            rintro e w8 ⟨rfl, b8⟩
            go_wp2_with (fail)
            go_ret
            exact ⟨rfl, below_c (below_c (below_c bw hb3) b7) b8⟩
end Go.Proofs.YtcmnojflllcdfaaDoor
