/- rs's law: all shards but one are told by the others. -/
import Derived.Test.YtcmnojflllcdfaaDoorRsLaw4
namespace Go.Proofs.YtcmnojflllcdfaaDoor
open Go.RowKit
set_option linter.unusedVariables false
set_option linter.unusedSimpArgs false

/-- An append whose run is known, behind a guard that holds. -/
theorem wpList_append_runG {P : Program} {w : World} {ops : Array Oper} {rest : List Oper} {o : Oper} {a : Act} {Q : Exit → Act → World → Prop} {t ty : TypeId} {v xv v' : Value} {w' : World}
    (hr : (Builtin.append_ #[t, t] ty #[v, xv]).run P w = .ok v' w') (s x : Operand) (hgd : Region.wanted o (yielded ops a.tmps) = true) (ho : o.op = Op.call { callee := Callee.builtin Builtin.append, args := #[s, x], argTypes := #[t, t] })
    (hty : o.type = ty) (hs : a.eval s = v) (hx : a.eval x = xv) (h : wpList P ops Q rest (a.put o.dst v') w') : wpList P ops Q (o :: rest) a w := by
  subst hty
  refine wpList_step fun K hK => ?_
  rw [if_pos hgd]
  unfold Oper.wp
  simp [execOp, ho, resolve, invoke, builtin, hs, hx, hr, Result.andThen]
  exact hK _ _ h
def hvNe (x n q : Nat) : List Bool := (List.range q).map (fun i => i != x) ++ List.replicate (n - q) false
theorem hvNe_length {x n q : Nat} (h : q ≤ n) : (hvNe x n q).length = n := by simp [hvNe]; omega
theorem hvNe_succ (x : Nat) {n q : Nat} (h : q < n) : bv (hvNe x n (q + 1)) = (bv (hvNe x n q)).set q (.bool (q != x)) := by
  have e : hvNe x n (q + 1) = (hvNe x n q).set q (q != x) := by
    apply List.ext_getElem
    · rw [List.length_set, hvNe_length (by omega), hvNe_length (by omega)]
    · intro j h1 h2
      rw [hvNe_length (by omega)] at h1
      rw [List.getElem_set]
      simp only [hvNe, List.getElem_append, List.length_map, List.length_range, List.getElem_map, List.getElem_range, List.getElem_replicate]
      by_cases e : q = j
      · subst e; rw [if_pos rfl, dif_pos (by omega)]
      · rw [if_neg e]
        by_cases e2 : j < q
        · rw [dif_pos (by omega), dif_pos e2]
        · rw [dif_neg (by omega), dif_neg e2]
  rw [e, bv, bv, List.map_set]
theorem hvNe_zero (x n : Nat) : hvNe x n 0 = List.replicate n false := by simp [hvNe]
theorem hvNe_all (x n : Nat) : hvNe x n n = (List.replicate n true).set x false := by
  apply List.ext_getElem
  · rw [hvNe_length (Nat.le_refl _)]; simp
  · intro j h1 h2
    rw [hvNe_length (Nat.le_refl _)] at h1
    rw [List.getElem_set]
    simp only [hvNe, List.getElem_append, List.length_map, List.length_range, List.getElem_map, List.getElem_range, List.getElem_replicate]
    rw [dif_pos h1]
    by_cases e : x = j
    · subst e; simp
    · rw [if_neg e]; simp; omega
set_option maxRecDepth 100000 in
set_option maxHeartbeats 4000000 in
theorem parity_walk (vraw : Value) (raw : List ByteArray) (k : Int) (m : Int) (which : Int) (w : World) (ht : Tabs w) (Rraw : Reads w vraw (tx raw)) (Fraw : Fits raw) (hk : -9223372036854775808 ≤ k ∧ k ≤ 9223372036854775807) (hm : -9223372036854775808 ≤ m ∧ m ≤ 9223372036854775807) (hwhich : -9223372036854775808 ≤ which ∧ which ≤ 9223372036854775807)  :
    Calls Tryd.prog 11 #[vraw, .int .i64 k, .int .i64 m, .int .i64 which] w (Says w (.bool true)) := by
  obtain ⟨p, hp, hpk⟩ := pick3_nat k 8 hk.1 hk.2 (by decide) (by decide)
  obtain ⟨q, hq, hpm⟩ := pick3_nat m 8 hm.1 hm.2 (by decide) (by decide)
  obtain ⟨K, hK⟩ : ∃ N : Nat, N = 1 + p := ⟨_, rfl⟩
  have hK1 : 1 + (p : Int) = (K : Int) := by omega
  obtain ⟨M, hM⟩ : ∃ N : Nat, N = 1 + q := ⟨_, rfl⟩
  have hM1 : 1 + (q : Int) = (M : Int) := by omega
  have k1 : 1 ≤ K := by omega
  have k2 : K ≤ 8 := by omega
  have m1 : 1 ≤ M := by omega
  have m2 : M ≤ 8 := by omega
  clear hK hM
  obtain ⟨S, hS⟩ : ∃ S : Nat, S = K + M := ⟨_, rfl⟩
  have hS1 : (K : Int) + (M : Int) = (S : Int) := by omega
  have s1 : S ≤ 16 := by omega
  have hS' := Lib.hid hS
  clear hS
  have cD := fun W v hv => data_any v raw K 9 W hv Fraw (by omega) (by omega)
  have rD := dataL_rect raw K 9
  generalize dataL raw K 9 = data at *
  have fD := rD.fits (by omega) (by omega)
  obtain ⟨g1, g2, rP⟩ := enc_good rD k1 k2 m1 m2 (by omega) (by omega)
  have cP := fun W hW v hv => encode_any v data (M : Int) W hW hv fD
  rw [g1, g2] at cP
  have rW := word_rect rD k1 k2 m1 m2 (by omega) (by omega)
  have fW := rW.fits (by omega) (by omega)
  have hWd := Lib.hid (show wordL data K M = data ++ parL data K M from rfl)
  have hg0 : Good data K M (wordL data K M) (List.replicate S true) := ⟨rW.l, by rw [List.length_replicate]; exact hS'.out, fun _ _ _ => rfl⟩
  have hdec := Lib.hid (fun all hv (g : Good data K M all hv) (hc : K ≤ hv.count true) => decode_good g rD k1 k2 m1 m2 (by omega) (by omega) hc)
  have hld := Lib.hid (show data.length + (parL data K M).length ≤ 100 by rw [rD.l, rP.l]; omega)
  have lP := Lib.hid rP.l
  have cS := fun W va vb ha hb => same_any va vb (wordL data K M) (wordL data K M) W ha hb fW fW
  rw [sameL_self] at cS
  generalize wordL data K M = word at *
  generalize parL data K M = par at *
  obtain ⟨x, hx, hpx⟩ := pick3_nat which (S : Int) hwhich.1 hwhich.2 (by omega) (by omega)
  have hxS : x < S := by omega
  have lW := Lib.hid (show word.length = S by rw [hg0.la]; exact hS'.out.symm)
  have hgd := hg0.lose x ⟨#[]⟩
  have hcf := count_off (List.replicate S true) x (by simpa using hxS)
  rw [List.count_replicate_self] at hcf
  have fW2 := fW.set x ⟨#[]⟩ (by decide)
  obtain ⟨e1, e2⟩ := hdec.out _ _ hgd (by have := hS'.out; omega)
  have cB := fun W hW va vh hA hh => decode_any (M : Int) va vh (word.set x ⟨#[]⟩) ((List.replicate S true).set x false) W hW hA hh fW2 (by rw [hgd.la]; omega) (by rw [hgd.lh]; omega)
  rw [e1, e2, ← hvNe_all] at cB
  have hsj := Lib.hid (show tx (word.set x ⟨#[]⟩) = (tx word).set x (.string ⟨#[]⟩) by rw [tx, tx, List.map_set])
  clear g1 g2 rP rD fD rW fW hg0 hgd hcf fW2 e1 e2 hdec
  go_enter Tryd.func11, Tryd.ntmps11
  go_wp2_with (fail)
  refine (rsawake_any _ ht).mono ?_
  rintro e w1 ⟨rfl, b1⟩
  have t1 := ht.below b1 ht.two
  go_wp2_with (fail)
  refine (hpk _).mono ?_
  rintro e wq ⟨rfl, rfl⟩
  go_wp2_with (fail)
  refine (hpm _).mono ?_
  rintro e wq ⟨rfl, rfl⟩
  go_wp2_with (fail)
  have q0 := Rraw.below b1
  refine (cD _ _ q0).mono ?_
  rintro e w2 ⟨v2, rfl, o2, b2⟩
  have t2 := t1.below b2 t1.two
  have r2_d := o2.reads
  go_wp2_with (fail)
  refine (cP _ t2 _ r2_d).mono ?_
  rintro e w3 ⟨v3, rfl, o3, b3⟩
  have t3 := t2.below b3 t2.two
  have r3_d := r2_d.below b3
  have r3_p := o3.reads
  have lp := fun W => (o3.reads).len_run (P := Tryd.prog) Tryd.underlying22 3 W
  rw [List.length_map, lP.out] at lp
  obtain ⟨u1, w4, u2, w5, ha1, ha2, p5, c5⟩ := word_run r3_d o3.reads (by have := hld.out; omega)
  rw [← hWd.out] at p5
  obtain ⟨w6, hmk, p6, c6⟩ := have_run w5 S (by omega)
  have bw := below_c (below_c b1 b2) b3
  go_wp2_with (at_builtin; first | refine wpList_append_run ha1 _ _ rfl rfl rfl rfl rfl ?_ | refine wpList_append_run ha2 _ _ rfl rfl rfl rfl rfl ?_)
  refine (hpx _).mono ?_
  rintro e wq ⟨rfl, rfl⟩
  go_wp2_with (fail)
  go_loopw [15] (fun i wr => ∃ q : Nat, q ≤ S ∧ i = .int .i64 (q : Int) ∧ Own wr w5.heap.size 4 (.slice (some ⟨w5.heap.size, 0, none⟩) S S) (bv (hvNe x S q)) ∧ Below w5.heap.size w5 wr) (fun i _ => S - (intOf i).toNat)
  case atStart => exact ⟨0, by omega, rfl, by rw [hvNe_zero]; exact p6, c6⟩
  case round =>
    obtain ⟨q, hq, rfl, hown, hbel⟩ := hrel
    by_cases hlt : q < S
    · skip
      have b1 : (q : Int) < (S : Int) := by omega
      have hcq := hown.cell (i := q) (by rw [bv_length, hvNe_length hq]; exact hlt)
      have hfq := hown.frozen q
      have hgl := hown.lt
      have hnx := Lib.hid (hvNe_succ x hlt)
      by_cases hqx : q = x
      · subst hqx
        have hb := Lib.hid (show (q != q) = false by simp)
        go_wp2_with (fail)
        go_roundw
        case rel => exact ⟨q + 1, by omega, by go_num, by rw [hnx.out, hb.out]; exact hown.set q _, hbel.setCell (Nat.le_refl _) _⟩
        case measure => simp [intOf]; omega
      · have hb := Lib.hid (show (q != x) = true by rw [bne_iff_ne]; exact hqx)
        have hb2 : ((q : Int) != (x : Int)) = true := by rw [bne_iff_ne]; omega
        have hb3 : ((q : Int) == (x : Int)) = false := by rw [beq_eq_false_iff_ne]; omega
        go_wp2_with (fail)
        go_roundw
        case rel => exact ⟨q + 1, by omega, by go_num, by rw [hnx.out, hb.out]; exact hown.set q _, hbel.setCell (Nat.le_refl _) _⟩
        case measure => simp [intOf]; omega
    · have e : q = S := by omega
      subst e
      have ra := p5.reads.below hbel
      obtain ⟨u8, w8, ha8, p8, c8⟩ := copy_tx ra (by rw [lW.out]; omega)
      obtain ⟨g, cap, rfl, hg1, hg2⟩ := p8.form (by rw [List.length_map, lW.out]; omega)
      rw [List.length_map, lW.out] at p8 ha8
      have b5 : Below w3.heap.size w3 wr := c5.trans (hbel.mono c5.size)
      have b8 : Below w3.heap.size w3 w8 := b5.trans (c8.mono b5.size)
      have hcx := p8.cell (i := x) (by rw [List.length_map, lW.out]; exact hxS)
      have hfx := p8.frozen x
      have p9 := p8.set x (.string ⟨#[]⟩)
      rw [← hsj.out] at p9
      have b9 : Below w3.heap.size w3 (w8.setCell ⟨g, x, none⟩ (.string ⟨#[]⟩)) := b8.setCell (Nat.le_trans b5.size hg1) _
      have c9 : Below wr.heap.size wr (w8.setCell ⟨g, x, none⟩ (.string ⟨#[]⟩)) := c8.setCell hg1 _
      have h9 := hown.reads.below c9
      have ra := ra.below c9
      have b1 : (x : Int) < (q : Int) := by omega
      go_wp2_with (at_builtin; refine wpList_append_run ha8 _ _ rfl rfl rfl rfl rfl ?_)
      refine (cB _ (t3.below b9 t3.two) _ _ p9.reads h9).mono ?_
      rintro e wA ⟨vA, rfl, oA, bA⟩
      have tA := (t3.below b9 t3.two).below bA (t3.below b9 t3.two).two
      have ra := ra.below bA
      go_wp2_with (fail)
      refine (cP _ tA _ oA.reads).mono ?_
      rintro e wB ⟨vB, rfl, oB, bB⟩
      have ra := ra.below bB
      obtain ⟨u3, wC, u4, wD, hb1, hb2, pD, cD⟩ := word_run (oA.reads.below bB) oB.reads (by have := hld.out; omega)
      rw [← hWd.out] at pD
      have ra := ra.below cD
      go_wp2_with (at_builtin; first | refine wpList_append_runG hb1 _ _ (by rfl) rfl rfl rfl rfl ?_ | refine wpList_append_runG hb2 _ _ (by rfl) rfl rfl rfl rfl ?_)
      refine (cS _ _ _ pD.reads ra).mono ?_
      rintro e wE ⟨rfl, bE⟩
      go_wp2_with (fail)
      go_ret
      exact ⟨rfl, below_c (below_c (below_c (below_c (below_c bw b9) bA) bB) cD) bE⟩
end Go.Proofs.YtcmnojflllcdfaaDoor
