/- mat: the document's own inverse. -/
import Derived.Test.YtcmnojflllcdfaaDoorMatRef2
import Derived.Deep.RegionLaw
import Derived.Deep.RegionWith
namespace Go.Proofs.YtcmnojflllcdfaaDoor
open Go.RowKit
set_option linter.unusedVariables false
set_option linter.unusedSimpArgs false

/-- An append whose run is known, as one step of a region that draws. -/
theorem step_append_run {P : Program} {ops : Array Oper} {o : Oper} {a : Act} {w : World} {K : Act → World → Prop} {Q : Exit → Act → World → Prop} {E : Prop} {t ty : TypeId} {v xv v' : Value} {w' : World}
    (hr : (Builtin.append_ #[t, t] ty #[v, xv]).run P w = .ok v' w') (s x : Operand) (hg : o.guard = none) (hop : o.op = Op.call { callee := Callee.builtin Builtin.append, args := #[s, x], argTypes := #[t, t] })
    (hty : o.type = ty) (hs : a.eval s = v) (hx : a.eval x = xv) (hK : K (a.put o.dst v') w') : if Region.wanted o (yielded ops a.tmps) = true then Oper.wp P o a w K Q else E := by
  have hw : Region.wanted o (yielded ops a.tmps) = true := by simp [Region.wanted, hg]
  rw [if_pos hw]
  subst hty
  unfold Oper.wp
  simp [execOp, hop, resolve, invoke, builtin, hs, hx, hr, Result.andThen]
  exact hK
/-- What was found in rows c to k. -/
def Fnd (l : List ByteArray) (c k : Nat) (P : Int) : Prop :=
  (P = -1 ∧ ∀ j, c ≤ j → j < k → bt (l.getD j ⟨#[]⟩) c = 0) ∨ (∃ p : Nat, P = (p : Int) ∧ c ≤ p ∧ p < k ∧ bt (l.getD p ⟨#[]⟩) c ≠ 0 ∧ ∀ j, c ≤ j → j < p → bt (l.getD j ⟨#[]⟩) c = 0)
theorem Fnd.start (l : List ByteArray) (c : Nat) : Fnd l c c (-1) := .inl ⟨rfl, fun j h1 h2 => by omega⟩
theorem Fnd.keep {l : List ByteArray} {c k : Nat} {P : Int} (h : Fnd l c k P) (h0 : 0 ≤ P) : Fnd l c (k + 1) P := by
  rcases h with ⟨h, _⟩ | ⟨p, h1, h2, h3, h4, h5⟩
  · omega
  · exact .inr ⟨p, h1, h2, by omega, h4, h5⟩
theorem Fnd.zero {l : List ByteArray} {c k : Nat} {P : Int} (h : Fnd l c k P) (h0 : P < 0) (hb : bt (l.getD k ⟨#[]⟩) c = 0) : Fnd l c (k + 1) P := by
  rcases h with ⟨h, h2⟩ | ⟨p, h1, _⟩
  · refine .inl ⟨h, fun j hj1 hj2 => ?_⟩
    by_cases e : j = k
    · subst e; exact hb
    · exact h2 j hj1 (by omega)
  · omega
theorem Fnd.found {l : List ByteArray} {c k : Nat} {P : Int} (h : Fnd l c k P) (h0 : P < 0) (hc : c ≤ k) (hb : bt (l.getD k ⟨#[]⟩) c ≠ 0) : Fnd l c (k + 1) (k : Int) := by
  rcases h with ⟨h, h2⟩ | ⟨p, h1, _⟩
  · exact .inr ⟨k, rfl, hc, by omega, hb, h2⟩
  · omega
theorem Fnd.pvt {l : List ByteArray} {c n : Nat} {P : Int} (h : Fnd l c n P) (hc : c ≤ n) : (P = -1 ∧ pvt l c (n - c) c = n) ∨ (∃ p : Nat, P = (p : Int) ∧ p < n ∧ pvt l c (n - c) c = p ∧ bt (l.getD p ⟨#[]⟩) c ≠ 0) := by
  obtain ⟨q1, q2, q3, q4⟩ := pvt_spec l c (n - c) c
  rw [show c + (n - c) = n by omega] at q2 q3
  rcases h with ⟨h1, h2⟩ | ⟨p, h1, h2, h3, h4, h5⟩
  · left
    refine ⟨h1, ?_⟩
    rcases Nat.lt_or_ge (Go.Proofs.YtcmnojflllcdfaaDoor.pvt l c (n - c) c) n with hlt | hge
    · exact absurd (h2 _ q1 hlt) (q3 hlt)
    · omega
  · right
    refine ⟨p, h1, h3, ?_, h4⟩
    rcases Nat.lt_trichotomy (Go.Proofs.YtcmnojflllcdfaaDoor.pvt l c (n - c) c) p with hlt | he | hgt
    · exact absurd (h5 _ q1 hlt) (q3 (by omega))
    · exact he
    · exact absurd (q4 p h2 hgt) h4
/-- The rows while a column is cleared. -/
def rTo (S : List ByteArray) (c : Nat) (o : ByteArray) (k : Nat) : List ByteArray := (redTo S c o k).set c o
theorem rTo_length (S : List ByteArray) (c : Nat) (o : ByteArray) (k : Nat) : (rTo S c o k).length = S.length := by rw [rTo, List.length_set, redTo_length]
theorem rTo_zero (S : List ByteArray) (c : Nat) (o : ByteArray) : rTo S c o 0 = S.set c o := by rw [rTo, redTo_zero]
theorem rTo_all (S : List ByteArray) (c : Nat) (o : ByteArray) : rTo S c o S.length = (S.map (redRow o c)).set c o := by rw [rTo, redTo_all]
theorem rTo_skip (S : List ByteArray) {c : Nat} (o : ByteArray) (h : c < S.length) : rTo S c o (c + 1) = rTo S c o c := by
  rw [rTo, rTo, redTo_succ S c o h, List.set_set]
theorem rTo_next (S : List ByteArray) {c k : Nat} (o : ByteArray) (h : k < S.length) (hne : k ≠ c) : tx (rTo S c o (k + 1)) = (tx (rTo S c o k)).set k (.string (redRow o c (S.getD k ⟨#[]⟩))) := by
  rw [rTo, rTo, redTo_succ S c o h, List.set_comm _ _ hne, tx, tx, List.map_set]
theorem rTo_at (S : List ByteArray) {c k : Nat} (o : ByteArray) (hne : k ≠ c) : (rTo S c o k).getD k ⟨#[]⟩ = S.getD k ⟨#[]⟩ := by
  rw [rTo, List.getD_eq_getElem?_getD, List.getElem?_set_ne (Ne.symm hne), ← List.getD_eq_getElem?_getD, redTo_at]
theorem rTo_own (S : List ByteArray) {c : Nat} (o : ByteArray) (k : Nat) (h : c < S.length) : (rTo S c o k).getD c ⟨#[]⟩ = o := by
  rw [rTo, List.getD_eq_getElem?_getD, List.getElem?_set_self (by rw [redTo_length]; exact h)]; rfl
theorem start_eq (l : List ByteArray) {c p : Nat} (hc : c < l.length) (hp : p < l.length) (o : ByteArray) : (l.set p (l.getD c ⟨#[]⟩)).set c o = (swapL l c p).set c o := by
  rw [swapL]
  by_cases e : p = c
  · subst e; rw [List.set_set, List.set_set, List.set_set]
  · rw [List.set_comm (l.getD p ⟨#[]⟩) (l.getD c ⟨#[]⟩) (Ne.symm e), List.set_set]
set_option maxRecDepth 100000 in
set_option maxHeartbeats 8000000 in
theorem rinverse_any (va : Value) (a : List ByteArray) (w : World) (hA : Reads w va (tx a)) (fa : Fits a) :
    Calls Tryd.prog 37 #[va] w (GivesL w (invL a) (invE a)) := by
  have ra := fun W (hW : Below w.heap.size w W) => rright_any va a W (hA.below hW) fa
  cases h1 : mR a with
  | false =>
    have hz : Hid (sqB a = false) := Lib.hid (by simp [sqB, h1])
    rw [h1] at ra
    clear h1
    go_enter Tryd.func37, Tryd.ntmps37
    go_wp2_with (fail)
    refine (ra _ (Below.refl _ _)).mono ?_
    rintro e w1 ⟨rfl, b1⟩
    go_wp2_with (fail)
    go_ret2
    exact inv_bad w a hz _ b1
  | true =>
    obtain ⟨k1, k2, k3, k4, k5⟩ := mR_facts h1
    rw [h1] at ra
    rcases hA.srow with ⟨_, rfl⟩ | ⟨ba, oa, ca, rfl, hSa⟩
    · simp at k1
    have hc0 := fun W (hW : Below w.heap.size w W) => (hSa.below hW).cell 0 (by omega)
    rw [Nat.add_zero] at hc0
    obtain ⟨s0, hs0⟩ : ∃ r, a.getD 0 ⟨#[]⟩ = r := ⟨_, rfl⟩
    cases h2 : (s0.size == a.length) with
    | false =>
      have hz : Hid (sqB a = false) := Lib.hid (by rw [sqB, hs0, h2]; simp)
      have t3 : (((a.length : Nat) : Int) != ((s0.size : Nat) : Int)) = true := by rw [bne_iff_ne]; rw [beq_eq_false_iff_ne] at h2; omega
      rw [hs0] at hc0
      clear h1 h2 hs0 k5
      go_enter Tryd.func37, Tryd.ntmps37
      go_wp2_with (fail)
      refine (ra _ (Below.refl _ _)).mono ?_
      rintro e w1 ⟨rfl, b1⟩
      have hc0' := hc0 _ b1
      clear hc0
      go_wp2_with (fail)
      go_ret2
      exact inv_bad w a hz _ b1
    | true =>
      have hz : Hid (sqB a = true) := Lib.hid (by rw [sqB, hs0, h2, h1]; rfl)
      have hsz : Hid (∀ i, i < a.length → (a.getD i ⟨#[]⟩).size = a.length) := Lib.hid (sqB_facts hz.out).2.2.2
      have t3 : (((a.length : Nat) : Int) != ((s0.size : Nat) : Int)) = false := by rw [beq_iff_eq] at h2; rw [h2]; exact bne_self_eq_false _
      rw [hs0] at hc0
      have hidn := fun W => ridentity_any (a.length : Int) W (by omega)
      rw [idL, idE, if_pos (by simp [fitsB]; omega), if_pos (by simp [fitsB]; omega), show ((a.length : Int)).toNat = a.length by omega] at hidn
      clear h1 h2 hs0 k5
      obtain ⟨i0, hi, hz0, hz1, hz2⟩ := info_parts Tryd.infoS
      go_enter Tryd.func37, Tryd.ntmps37
      go_wp2_with (fail)
      refine (ra _ (Below.refl _ _)).mono ?_
      rintro e w1 ⟨rfl, b1⟩
      have hc0' := hc0 _ b1
      clear hc0
      go_wp2_with (fail)
      refine (hidn _).mono ?_
      rintro e w2 ⟨vu, rfl, hou, b2⟩
      obtain ⟨gu, cu, hvu, hgu1, hgu2⟩ := hou.form (by rw [List.length_map, mkM_length]; omega)
      rw [List.length_map, mkM_length] at hvu
      subst hvu
      have bw2 := below_c b1 b2
      go_wp2_with (fail)
      go_loopw [8, 9] (fun u i wr => ∃ k : Nat, k ≤ a.length ∧ i = .int .i64 (k : Int) ∧ Own wr w2.heap.size 9 u (tx (firstL (fun i => a.getD i ⟨#[]⟩ ++ (mkM idEl a.length a.length).getD i ⟨#[]⟩) k)) ∧ Below w2.heap.size w2 wr) (fun _ i _ => a.length - (intOf i).toNat)
      case atStart => exact ⟨0, by omega, rfl, Own.nil _ _ _, Below.refl _ _⟩
      case round =>
        obtain ⟨k, hk, rfl, hown, hbel⟩ := hrel
        obtain ⟨u, rfl⟩ : ∃ v, v = u8 := ⟨_, rfl⟩
        by_cases hlt : k < a.length
        · have hca := (hSa.below (below_c bw2 hbel)).cell k hlt
          have hcu := (hou.after hbel).cell (i := k) (by rw [List.length_map, mkM_length]; exact hlt)
          rw [tx_getD _ (by rw [mkM_length]; exact hlt)] at hcu
          have hnx := Lib.hid (firstL_succ (fun i => a.getD i ⟨#[]⟩ ++ (mkM idEl a.length a.length).getD i ⟨#[]⟩) k)
          have hfl := firstL_length (fun i => a.getD i ⟨#[]⟩ ++ (mkM idEl a.length a.length).getD i ⟨#[]⟩) k
          have b1' : (k : Int) < (a.length : Int) := by omega
          have hrk := hsz.out k hlt
          have huk := mkM_size idEl (m := a.length) (n := a.length) hlt
          have hadd : ¬ 9223372036854775807 < (a.getD k ⟨#[]⟩).size + ((mkM idEl a.length a.length).getD k ⟨#[]⟩).size := by omega
          clear hrk huk
          obtain ⟨v', w', hap, hown4, hb4⟩ := Own.push (P := Tryd.prog) (T := 22) Tryd.underlying22 hi hz0 hz1 hz2 rfl hown.drew (.string (a.getD k ⟨#[]⟩ ++ (mkM idEl a.length a.length).getD k ⟨#[]⟩)) rfl (by simpa using hbel.size) (by rw [List.length_map, hfl]; omega) (by rw [List.length_map, hfl]; omega)
          rw [show wr.drew.heap.size = wr.heap.size from rfl] at hap
          generalize a.getD k ⟨#[]⟩ = rk at *
          generalize (mkM idEl a.length a.length).getD k ⟨#[]⟩ = uk at *
          clear hc0'
          go_wp2_with (fail)
          go_region_law (refine step_append_run hap _ _ rfl rfl rfl rfl rfl ?_)
          all_goals
            go_wp2
            go_roundw
            case rel => exact ⟨k + 1, by omega, by go_num, by rw [hnx.out]; exact hown4, (hbel.drew).trans hb4⟩
            case measure => simp [intOf]; omega
        · have e : k = a.length := by omega
          subst e
          obtain ⟨g, cap, hvw, hg1, hg2⟩ := hown.form (by rw [List.length_map, firstL_length]; omega)
          rw [List.length_map, firstL_length] at hvw
          subst hvw
          have hsz0 : Hid (∀ i, i < a.length → ((stL a).getD i ⟨#[]⟩).size = a.length + a.length) := Lib.hid (fun i hi => by
            rw [stL, List.getD_eq_getElem?_getD, List.getElem?_map, List.getElem?_range hi]
            show (a.getD i ⟨#[]⟩ ++ (mkM idEl a.length a.length).getD i ⟨#[]⟩).size = _
            rw [app_size, hsz.out i hi, mkM_size _ hi])
          have hln0 : (stL a).length = a.length := by simp [stL]
          rw [show firstL (fun i => a.getD i ⟨#[]⟩ ++ (mkM idEl a.length a.length).getD i ⟨#[]⟩) a.length = stL a from rfl] at hown
          have bw3 := below_c bw2 hbel
          have hgB : w2.heap.size ≤ g := hown.lt.1
          clear hc0' hou hgu1 hgu2
          go_wp2_with (fail)
          go_loopw [10, 11, 12, 13, 14, 15, 16] (fun c _ _ _ _ _ _ wr => ∃ (k : Nat) (l : List ByteArray), k ≤ a.length ∧ c = .int .i64 (k : Int) ∧ Own wr w2.heap.size 9 (.slice (some ⟨g, 0, none⟩) a.length cap) (tx l) ∧ l.length = a.length ∧ Hid (∀ i, i < a.length → (l.getD i ⟨#[]⟩).size = a.length + a.length) ∧ Hid (gj a.length 0 (stL a) = gj (a.length - k) k l) ∧ Below w2.heap.size w2 wr) (fun c _ _ _ _ _ _ _ => a.length - (intOf c).toNat)
          case atStart => exact ⟨0, stL a, by omega, rfl, hown, hln0, hsz0, Lib.hid rfl, hbel⟩
          case round =>
            obtain ⟨c, l, hc, rfl, hown, hll, hsl, hgj, hbel⟩ := hrel
            by_cases hlt : c < a.length
            · have e1 : (c : Int) < (a.length : Int) := by omega
              have hgs := hgj.out
              rw [show a.length - c = (a.length - (c + 1)) + 1 by omega, gj, hll] at hgs
              have hgs' := Lib.hid hgs
              clear hgs hgj
              obtain ⟨wo, rfl⟩ : ∃ wo : World, wo = wr := ⟨_, rfl⟩
              go_wp2_with (fail)
              go_loopw [11, 12] (fun P i wr => ∃ (k : Nat) (p : Int), c ≤ k ∧ k ≤ a.length ∧ i = .int .i64 (k : Int) ∧ P = .int .i64 p ∧ -1 ≤ p ∧ p ≤ 1000 ∧ Hid (Fnd l c k p) ∧ wo = wr) (fun _ i _ => a.length - (intOf i).toNat)
              case atStart => exact ⟨c, -1, by omega, by omega, rfl, rfl, by omega, by omega, Lib.hid (Fnd.start l c), rfl⟩
              case round =>
                obtain ⟨k, p, hk1, hk2, rfl, rfl, hp1, hp2, hf, rfl⟩ := hrel
                by_cases hkn : k < a.length
                · have d1 : (k : Int) < (a.length : Int) := by omega
                  by_cases hp0 : p < 0
                  · have d2 : decide (p < 0) = true := by simpa using hp0
                    have hck := hown.cell (i := k) (by rw [List.length_map]; omega)
                    rw [tx_getD l (by omega)] at hck
                    have hsk := hsl.out k hkn
                    have d3 : c < (l.getD k ⟨#[]⟩).size := by omega
                    have d4 : (c : Int) < ((l.getD k ⟨#[]⟩).size : Int) := by omega
                    by_cases hb : bt (l.getD k ⟨#[]⟩) c = 0
                    · have hf' := Lib.hid (hf.out.zero hp0 hb)
                      have t : (((l.getD k ⟨#[]⟩)[c].toNat : Int) != 0) = false := by rw [bt_get d3, hb]; rfl
                      clear hb hsk
                      generalize l.getD k ⟨#[]⟩ = rk at *
                      go_wp2_with (fail)
                      go_roundw
                      case rel => exact ⟨k + 1, p, by omega, by omega, by go_num, rfl, by omega, by omega, hf', (by first | rfl | trivial)⟩
                      case measure => simp [intOf]; omega
                    · have hf' := Lib.hid (hf.out.found hp0 hk1 hb)
                      have t : (((l.getD k ⟨#[]⟩)[c].toNat : Int) != 0) = true := by rw [bt_get d3, bne_iff_ne]; omega
                      clear hb hsk
                      generalize l.getD k ⟨#[]⟩ = rk at *
                      go_wp2_with (fail)
                      go_roundw
                      case rel => exact ⟨k + 1, (k : Int), by omega, by omega, by go_num, rfl, by omega, by omega, hf', (by first | rfl | trivial)⟩
                      case measure => simp [intOf]; omega
                  · have d2 : decide (p < 0) = false := by simpa using hp0
                    have hf' := Lib.hid (hf.out.keep (by omega))
                    go_wp2_with (fail)
                    go_roundw
                    case rel => exact ⟨k + 1, p, by omega, by omega, by go_num, rfl, by omega, by omega, hf', (by first | rfl | trivial)⟩
                    case measure => simp [intOf]; omega
                · have e : k = a.length := by omega
                  subst e
                  rcases hf.out.pvt (by omega) with ⟨rfl, hq⟩ | ⟨p, rfl, hpn, hq, hnz⟩
                  · have hgn := hgs'.out
                    rw [hq, if_pos rfl] at hgn
                    have hgn' := Lib.hid hgn
                    clear hgn hq
                    go_wp2_with (fail)
                    go_ret2
                    exact ⟨.slice none 0 0, by rw [invE, if_pos hz.out, hgn'.out]; rfl, by rw [invL, if_pos hz.out, hgn'.out]; exact Own.nil _ _ _, below_c bw2 hbel⟩
                  · have hgn := hgs'.out
                    rw [hq, if_neg (by omega)] at hgn
                    have hgn' := Lib.hid hgn
                    clear hgn hq
                    have hcp := hown.cell (i := p) (by rw [List.length_map]; omega)
                    rw [tx_getD l (by omega)] at hcp
                    have hcc := hown.cell (i := c) (by rw [List.length_map]; omega)
                    rw [tx_getD l (by omega)] at hcc
                    have hfp := hown.frozen p
                    have hsp := hsl.out p hpn
                    have d3 : c < (l.getD p ⟨#[]⟩).size := by omega
                    have d4 : (c : Int) < ((l.getD p ⟨#[]⟩).size : Int) := by omega
                    have d5 : (p : Int) < (a.length : Int) := by omega
                    have hbl := bt_lt (l.getD p ⟨#[]⟩) c
                    have hgi := Gf.gi_lt (bt (l.getD p ⟨#[]⟩) c)
                    have hinv := fun W => rinv_pos ((((l.getD p ⟨#[]⟩)[c]).toNat : Nat) : Int) W (by rw [bt_get d3]; omega) (by rw [bt_get d3]; omega)
                    rw [show ((((l.getD p ⟨#[]⟩)[c]).toNat : Nat) : Int).toNat = bt (l.getD p ⟨#[]⟩) c by rw [bt_get d3]; omega] at hinv
                    have hsca := fun W => scaled_any (Gf.gi (bt (l.getD p ⟨#[]⟩) c)) (l.getD p ⟨#[]⟩) W hgi (by omega)
                    have hSc : (swapL l c p).getD c ⟨#[]⟩ = l.getD p ⟨#[]⟩ := by rw [swapL_get l (by omega) (by omega), show Mx.swp c p c = p from if_pos rfl]
                    have hown_eq : mulAdd (zrow (l.getD p ⟨#[]⟩).size) (Gf.gi (bt (l.getD p ⟨#[]⟩) c)) (l.getD p ⟨#[]⟩) = ownRow (swapL l c p) c := by rw [ownRow, hSc]
                    rw [hown_eq] at hsca
                    have hst := start_eq l (c := c) (p := p) (by omega) (by omega) (ownRow (swapL l c p) c)
                    have hred : Hid (redL (swapL l c p) c = ((swapL l c p).map (redRow (ownRow (swapL l c p) c) c)).set c (ownRow (swapL l c p) c)) := Lib.hid rfl
                    have hlS : (swapL l c p).length = a.length := by rw [swapL_length, hll]
                    have hsS : Hid (∀ i, i < a.length → ((swapL l c p).getD i ⟨#[]⟩).size = a.length + a.length) := Lib.hid (fun i hi => by rw [swapL_get l (by omega) (by omega)]; exact hsl.out _ (swp_lt' hlt hpn hi))
                    have hso : (ownRow (swapL l c p) c).size = a.length + a.length := by rw [ownRow, mulAdd_size, zrow_size, hsS.out c hlt]
                    have hsr : Hid (∀ i, i < a.length → ((redL (swapL l c p) c).getD i ⟨#[]⟩).size = a.length + a.length) := Lib.hid (fun i hi => redL_size _ (by omega) (by omega) (fun j hj => hsS.out j (by omega)))
                    have hlr : (redL (swapL l c p) c).length = a.length := by rw [redL_length, hlS]
                    generalize ownRow (swapL l c p) c = o at *
                    have o1 := hown.set p (.string (l.getD c ⟨#[]⟩))
                    rw [show (tx l).set p (.string (l.getD c ⟨#[]⟩)) = tx (l.set p (l.getD c ⟨#[]⟩)) by rw [tx, tx, List.map_set]] at o1
                    have bo1 : Below w2.heap.size w2 (wo.setCell ⟨g, p, none⟩ (.string (l.getD c ⟨#[]⟩))) := hbel.setCell hgB _
                    have hst' := Lib.hid hst
                    have hred' := hred
                    clear hst hSc hown_eq hsp hbl hgi hnz
                    generalize hT : l.set p (l.getD c ⟨#[]⟩) = T at *
                    have hlT : T.length = a.length := by rw [← hT, List.length_set, hll]
                    generalize l.getD p ⟨#[]⟩ = up at *
                    generalize l.getD c ⟨#[]⟩ = lc at *
                    clear hT
                    go_wp2_with (fail)
                    refine (hinv _).mono ?_
                    rintro e wq ⟨rfl, rfl⟩
                    go_wp2_with (fail)
                    refine (hsca _).mono ?_
                    rintro e w5 ⟨rfl, b5⟩
                    have o5 := o1.after b5
                    have b5' := bo1.trans (b5.mono (by simpa using bo1.size))
                    have hf5 := o5.frozen c
                    have hc5 := o5.cell (i := c) (by rw [List.length_map]; omega)
                    have o6 := o5.set c (.string o)
                    rw [show (tx T).set c (.string o) = tx (T.set c o) by rw [tx, tx, List.map_set], hst'.out, ← rTo_zero] at o6
                    have b6 : Below w2.heap.size w2 (w5.setCell ⟨g, c, none⟩ (.string o)) := b5'.setCell hgB _
                    clear hcp hcc hfp o1 o5 b5 b5' bo1 hinv hsca
                    generalize swapL l c p = S at *
                    go_wp2_with (fail)
                    go_loopw [16] (fun i wr => ∃ k : Nat, k ≤ a.length ∧ i = .int .i64 (k : Int) ∧ Own wr w2.heap.size 9 (.slice (some ⟨g, 0, none⟩) a.length cap) (tx (rTo S c o k)) ∧ Below w2.heap.size w2 wr) (fun i _ => a.length - (intOf i).toNat)
                    case atStart => exact ⟨0, by omega, rfl, o6, b6⟩
                    case round =>
                      obtain ⟨k, hk, rfl, ho, hbk⟩ := hrel
                      by_cases hka : k < a.length
                      · have f1 : (k : Int) < (a.length : Int) := by omega
                        by_cases hkc : k = c
                        · subst hkc
                          have f2 : ((k : Int) != (k : Int)) = false := bne_self_eq_false _
                          have hsk := Lib.hid (rTo_skip S (c := k) o (by omega))
                          go_wp2_with (fail)
                          go_roundw
                          case rel => exact ⟨k + 1, by omega, by go_num, by rw [hsk.out]; exact ho, hbk⟩
                          case measure => simp [intOf]; omega
                        · have f2 : ((k : Int) != (c : Int)) = true := by rw [bne_iff_ne]; omega
                          have gk := ho.cell (i := k) (by rw [List.length_map, rTo_length]; omega)
                          rw [tx_getD _ (by rw [rTo_length]; omega), rTo_at S o hkc] at gk
                          have gc := ho.cell (i := c) (by rw [List.length_map, rTo_length]; omega)
                          rw [tx_getD _ (by rw [rTo_length]; omega), rTo_own S o k (by omega)] at gc
                          have hsk := hsS.out k hka
                          have hnx := Lib.hid (rTo_next S o (show k < S.length by omega) hkc)
                          have f3 : c < (S.getD k ⟨#[]⟩).size := by omega
                          have f4 : (c : Int) < ((S.getD k ⟨#[]⟩).size : Int) := by omega
                          have hma := fun W => rmuladd_nat (S.getD k ⟨#[]⟩) o (bt (S.getD k ⟨#[]⟩) c) W (bt_lt _ _) (by omega) (by omega)
                          rw [show mulAdd (S.getD k ⟨#[]⟩) (bt (S.getD k ⟨#[]⟩) c) o = redRow o c (S.getD k ⟨#[]⟩) from rfl, show ((bt (S.getD k ⟨#[]⟩) c : Nat) : Int) = ((((S.getD k ⟨#[]⟩)[c]).toNat : Nat) : Int) by rw [bt_get f3]] at hma
                          clear hsk
                          generalize S.getD k ⟨#[]⟩ = rk at *
                          go_wp2_with (fail)
                          go_region_with ((go_at_call 23; refine (hma _).mono ?_; rintro e w7 ⟨rfl, b7⟩; have b7' := drew_c b7; have ho7 := ho.after b7'; have hf7 := ho7.frozen k; have hc7 := ho7.cell (i := k) (by rw [List.length_map, rTo_length]; omega)))
                          all_goals
                            go_wp2
                            go_roundw
                            case rel => exact ⟨k + 1, by omega, by go_num, by rw [hnx.out]; exact ho7.set k _, (hbk.trans (b7'.mono hbk.size)).setCell hgB _⟩
                            case measure => simp [intOf]; omega
                      · have e : k = a.length := by omega
                        have hall := rTo_all S c o
                        rw [hlS] at hall
                        subst e
                        rw [hall, ← hred'.out] at ho
                        clear hall
                        go_wp2_with (fail)
                        go_roundw
                        case rel => exact ⟨c + 1, _, by omega, by go_num, ho, hlr, hsr, hgn', hbk⟩
                        case measure => simp [intOf]; omega
            · have e : c = a.length := by omega
              subst e
              have hgs := hgj.out
              rw [show a.length - a.length = 0 by omega, gj] at hgs
              have hgs' := Lib.hid hgs
              clear hgs hgj
              obtain ⟨wo, rfl⟩ : ∃ wo : World, wo = wr := ⟨_, rfl⟩
              go_wp2_with (fail)
              go_loopw [17, 18] (fun u i wr => ∃ q : Nat, q ≤ a.length ∧ i = .int .i64 (q : Int) ∧ Own wr wo.heap.size 9 u (tx (firstL (fun i => (l.getD i ⟨#[]⟩).extract a.length (l.getD i ⟨#[]⟩).size) q)) ∧ Below wo.heap.size wo wr) (fun _ i _ => a.length - (intOf i).toNat)
              case atStart => exact ⟨0, by omega, rfl, Own.nil _ _ _, Below.refl _ _⟩
              case round =>
                obtain ⟨q, hq, rfl, ho, hbq⟩ := hrel
                obtain ⟨u, rfl⟩ : ∃ v, v = u17 := ⟨_, rfl⟩
                by_cases hlq : q < a.length
                · have f1 : (q : Int) < (a.length : Int) := by omega
                  have hcq := (hown.after hbq).cell (i := q) (by rw [List.length_map]; omega)
                  rw [tx_getD _ (by omega)] at hcq
                  have hfl := firstL_length (fun i => (l.getD i ⟨#[]⟩).extract a.length (l.getD i ⟨#[]⟩).size) q
                  have hnx := Lib.hid (firstL_succ (fun i => (l.getD i ⟨#[]⟩).extract a.length (l.getD i ⟨#[]⟩).size) q)
                  have hsq := hsl.out q hlq
                  have hsl2 := fun W => slice_from_run (P := Tryd.prog) Tryd.underlying9 (l.getD q ⟨#[]⟩) (a.length : Int) a.length rfl (by omega) W
                  obtain ⟨v', w', hap, hown4, hb4⟩ := Own.push (P := Tryd.prog) (T := 22) Tryd.underlying22 hi hz0 hz1 hz2 rfl ho (.string ((l.getD q ⟨#[]⟩).extract a.length (l.getD q ⟨#[]⟩).size)) rfl hbq.size (by rw [List.length_map, hfl]; omega) (by rw [List.length_map, hfl]; omega)
                  clear hsq
                  generalize l.getD q ⟨#[]⟩ = rq at *
                  go_wp2_with (at_builtin; refine wpList_append_run hap _ _ rfl rfl rfl rfl rfl ?_)
                  go_roundw
                  case rel => exact ⟨q + 1, by omega, by go_num, by rw [hnx.out]; exact hown4, hbq.trans hb4⟩
                  case measure => simp [intOf]; omega
                · have e : q = a.length := by omega
                  subst e
                  go_wp2
                  go_ret2
                  refine ⟨u, by rw [invE, if_pos hz.out, hgs'.out]; rfl, ?_, below_c bw2 (hbel.trans (hbq.mono hbel.size))⟩
                  rw [invL, if_pos hz.out, hgs'.out]
                  rw [show firstL (fun i => (l.getD i ⟨#[]⟩).extract a.length (l.getD i ⟨#[]⟩).size) a.length = halfL a.length l by
                    apply List.ext_getElem
                    · rw [firstL_length, halfL, List.length_map, hll]
                    · intro i h1 h2
                      rw [firstL_length] at h1
                      simp [firstL, halfL, List.getD_eq_getElem?_getD, show i < l.length by omega]] at ho
                  exact ho.mono (below_c bw2 hbel).size
end Go.Proofs.YtcmnojflllcdfaaDoor
