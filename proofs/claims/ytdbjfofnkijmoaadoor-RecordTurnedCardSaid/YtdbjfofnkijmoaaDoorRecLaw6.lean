/- record: a body that was turned. -/
import Derived.Test.YtdbjfofnkijmoaaDoorRecHdM
import Derived.Test.YtdbjfofnkijmoaaDoorPackNum
namespace Go.Proofs.YtdbjfofnkijmoaaDoor
open Go.RowKit
set_option linter.unusedVariables false
set_option linter.unusedSimpArgs false

open Rc
theorem Own.from1 {P : Program} {T E : TypeId} {i : TypeInfo} (hT : P.underlying T = some (.slice E)) (hi : P.info? E = some i) (hs : i.size = 1) {w : World} {B g n c : Nat} {xs : List Value} (h : Own w B E (.slice (some ⟨g, 0, none⟩) n c) xs) (hn : 1 ≤ xs.length) :
    ∃ a, (∀ W, (Instr.slice T (.slice (some ⟨g, 0, none⟩) n c) (some (.int .i64 1)) none none).run P W = .ok (.slice a (n - 1) (c - 1)) W) ∧ Reads w (.slice a (n - 1) (c - 1)) (xs.drop 1) := by
  have hc := h.room _ _ _ rfl
  have hnx : n = xs.length := by obtain ⟨a, c', e⟩ := h.isSlice; simp at e; exact e.2.1
  have hlt := (h.o.lt g rfl).2
  refine ⟨if c = 1 then some ⟨g, 0, none⟩ else some ⟨g, 1, none⟩, fun W => ?_, ?_⟩
  · have h1 : 1 ≤ n := by omega
    have h2 : 1 ≤ c := by omega
    have h3 : (1 : Int) ≤ (n : Int) := by omega
    simp [Instr.slice, run_underlying hT, Instr.sliceBounds, Instr.sliceBound, asIntOf, sizeOf, typeInfo, hi, hs, Addr.add, h3]
  · by_cases h1 : c = 1
    · have : n = 1 := by omega
      subst this
      rw [if_pos h1]
      exact .inl ⟨⟨_, _, rfl⟩, List.eq_nil_of_length_eq_zero (by rw [List.length_drop]; omega)⟩
    · rw [if_neg h1]
      refine .inr ⟨g, 1, c - 1, by rw [List.length_drop, hnx], hlt, fun i hi' => ?_⟩
      rw [List.length_drop] at hi'
      rw [h.cell (i := 1 + i) (by omega)]
      simp only [List.getD_eq_getElem?_getD, List.getElem?_drop]
set_option maxRecDepth 100000 in
set_option maxHeartbeats 6000000 in
theorem rturned_walk (r : Raw) (vs vl : Value) (which atr how : Int) (turn : Nat) (w : World) (hok : RawOk r) (hst : Reads w vs (r.st.map (.int .i64))) (hle : Reads w vl (r.le.map (.int .i64))) (hw : -9223372036854775808 ≤ which ∧ which ≤ 9223372036854775807) (ha : -9223372036854775808 ≤ atr ∧ atr ≤ 9223372036854775807) (hh : -9223372036854775808 ≤ how ∧ how ≤ 9223372036854775807) (htn : turn < 4294967296) :
    Calls Tryd.prog 5 #[r.v vs vl, .int .i64 which, .int .i64 atr, .int .u32 (turn : Int), .int .i64 how] w fun e w' => e = .returned (.bool true) ∧ Below w.heap.size w w' := by
  obtain ⟨p, hp⟩ : ∃ p, w.heap.size = p := ⟨_, rfl⟩
  have A0 := RwB.made w r vs vl 42
  have b0 : Below p w (w.alloc (.cells #[.int .i64 r.k, .int .i64 r.m, .int .i64 r.b, .int .i64 r.q, vs, vl] 42)) := (Below.refl _ _).alloc (by omega) _
  rw [hp] at A0
  have hst1 := hst.below (by rw [hp]; exact b0)
  have hle1 := hle.below (by rw [hp]; exact b0)
  clear hst hle
  unfold Raw.v
  go_enter Tryd.func5, Tryd.ntmps5
  go_wp2_with (fail)
  replace hp := Lib.hid hp
  generalize w.alloc (.cells #[.int .i64 r.k, .int .i64 r.m, .int .i64 r.b, .int .i64 r.q, vs, vl] 42) = w0 at *
  refine (awake11_any _).mono ?_
  rintro e w1 ⟨rfl, b1⟩
  have A1 := A0.below b1 A0.lt
  have B1 := b0.trans (b1.mono (by have := A0.lt; omega))
  have hst2 := hst1.below b1
  have hle2 := hle1.below b1
  obtain ⟨sa, sc, hvs⟩ := hst2.isSlice
  obtain ⟨la, lc, hvl⟩ := hle2.isSlice
  rw [List.length_map] at hvs hvl
  subst hvs
  subst hvl
  clear A0 b0 b1 hst1 hle1
  have e0 := A1.a0
  have e1 := A1.a1
  have e2 := A1.a2
  have e3 := A1.a3
  have e4 := A1.a4
  have e5 := A1.a5
  have cF := fit11_any r _ _ w1 hok hst2 hle2
  unfold Raw.v at cF
  go_wp2_with (fail)
  refine cF.mono ?_
  rintro e w2 ⟨v, l, rfl, F2, hl, b2⟩
  have B2 := B1.trans (b2.mono (by have := A1.lt; omega))
  have A2 := A1.below b2 A1.lt
  have hst3 := hst2.below b2
  have hle3 := hle2.below b2
  have hpw : p < w2.heap.size := A2.lt
  clear e0 e1 e2 e3 e4 e5 cF A1 B1 b2 hst2 hle2
  have hR := fit_ok11 r hl
  have hf := right_f hR
  obtain ⟨va, vc, ev⟩ := F2.o.isSlice
  subst ev
  have L2 := F2.reads (right_reads hR)
  obtain ⟨g, hg⟩ : ∃ g, w2.heap.size = g := ⟨_, rfl⟩
  have G3 := GBx.made w2 (fK r.k) (fM r.m) (fB r.b) 23
  have bb : Below g w2 (w2.alloc (.cells #[.int .i64 (fK r.k), .int .i64 (fM r.m), .int .i64 (fB r.b)] 23)) := (Below.refl _ _).alloc (by omega) _
  have s3 : (w2.alloc (.cells #[.int .i64 (fK r.k), .int .i64 (fM r.m), .int .i64 (fB r.b)] 23)).heap.size = g + 1 := by simp [hg]
  have X4 := RBx.made (w2.alloc (.cells #[.int .i64 (fK r.k), .int .i64 (fM r.m), .int .i64 (fB r.b)] 23)) (fitQ r) (.slice va l.length vc) 26
  have b4 : Below (g + 1) (w2.alloc (.cells #[.int .i64 (fK r.k), .int .i64 (fM r.m), .int .i64 (fB r.b)] 23)) ((w2.alloc (.cells #[.int .i64 (fK r.k), .int .i64 (fM r.m), .int .i64 (fB r.b)] 23)).alloc (.cells #[.int .i64 (fitQ r), .slice va l.length vc] 26)) := (Below.refl _ _).alloc (by omega) _
  rw [hg] at G3
  rw [s3] at X4
  have G4 := G3.below b4 (by omega)
  have b24 := bb.trans (b4.mono (by omega))
  have L4 := L2.below (by rw [hg]; exact b24)
  have F4 := F2.after (by rw [hg]; exact b24)
  have A4 := A2.below b24 (by omega)
  have hst4 := hst3.below (by rw [hg]; exact b24)
  have hle4 := hle3.below (by rw [hg]; exact b24)
  have B4 := B2.trans (b24.mono (by omega))
  go_upto_region 3 with (fail)
  generalize (w2.alloc (.cells #[.int .i64 (fK r.k), .int .i64 (fM r.m), .int .i64 (fB r.b)] 23)).alloc (.cells #[.int .i64 (fitQ r), .slice va l.length vc] 26) = w4 at *
  clear F2 L2 G3 bb s3 b4 b24 B2 A2 hst3 hle3
  replace hg := Lib.hid hg
  clear A4 hst4 hle4 hok
  have hpg : p < g := by have := hg.out; omega
  generalize fK r.k = K at *
  generalize fM r.m = M at *
  generalize fB r.b = Bb at *
  generalize fitQ r = q at *
  have hk := hf.k
  have hn := hf.n
  have hsz := lay_size (right_ord hR)
  have hLd := laid_nil (right_ord hR)
  have hdn : (hdS (layS q l)).length = l.length := by rw [hLd.s, List.length_map]
  have hdk : ∀ s ∈ l, s.d.length = K.toNat := fun s hs => by have := hf.d s hs; omega
  have hal := allT_len hdk
  have ha64 : (allT l).length ≤ 64 := by rw [hal]; exact Nat.le_trans (Nat.mul_le_mul hn.2 (show K.toNat ≤ 4 by omega)) (by decide)
  have ha1 : 1 ≤ (allT l).length := by rw [hal]; exact Nat.le_trans (by decide) (Nat.mul_le_mul hn.1 (show 1 ≤ K.toNat by omega))
  have haz : ∀ t ∈ allT l, t.size = 120 := fun t ht => by
    obtain ⟨s, hs, ht⟩ := List.mem_flatMap.1 ht
    exact hf.z s hs t ht
  have hmul : (l.length : Int) * K = ((allT l).length : Int) := by rw [hal, Int.natCast_mul, Int.toNat_of_nonneg (by omega)]
  have htake : Hid (∀ ob : List ByteArray, takeB K M Bb (layS q l) ob = true → ob.length = (allT l).length ∧ sumT ob = sumT (allT l)) := Lib.hid fun ob h => by
    obtain ⟨h1, h2, h3, h4⟩ := take_head h
    rw [hdn, hmul] at h2
    rw [hLd.c] at h4
    exact ⟨by omega, by omega⟩
  have hz := pk_rng which ((allT l).length : Int) (by omega)
  obtain ⟨z, hzz⟩ := Int.eq_ofNat_of_zero_le hz.1
  have cP := fun W => pick11_any which ((allT l).length : Int) W hw.1 hw.2 (by omega) (by omega)
  rw [hzz] at cP hz
  have hc := pk_rng atr 117 (by decide)
  obtain ⟨c, hcc⟩ := Int.eq_ofNat_of_zero_le hc.1
  have cQ := fun W => pick11_any atr 117 W ha.1 ha.2 (by decide) (by decide)
  rw [hcc] at cQ hc
  have hd := pk_rng how 3 (by decide)
  obtain ⟨d, hdd⟩ := Int.eq_ofNat_of_zero_le hd.1
  have cR := fun W => pick11_any how 3 W hh.1 hh.2 (by decide) (by decide)
  rw [hdd] at cR hd
  clear hzz hcc hdd ha hw hh
  have hzl : z < (allT l).length := by omega
  have hc117 : c < 117 := by omega
  have cT : Hid (∀ (ob : List ByteArray) (W : World) (v : Value), Reads W v (ob.map .string) → (∀ t ∈ ob, t.size ≤ 140737488355328) → ob.length ≤ 1000 → (∀ a n c, v = .slice a n c → n ≤ c) → takeB K M Bb (layS q l) ob = false →
      Calls Tryd.prog 14 #[.agg #[.int .i64 K, .int .i64 M, .int .i64 Bb], .string (layS q l), v] W fun e w' => ∃ a c, e = .returned (.tuple #[.agg #[.int .i64 0, .slice a 0 c], .int .i64 110]) ∧ Below W.heap.size W w') :=
    Lib.hid fun ob W v h1 h2 h3 h4 h5 => (take11_any K M Bb (layS q l) v ob W (by omega) h1 h2 (by omega) h4).mono fun e w' h => by
      unfold GivesTk at h
      rw [h5] at h
      obtain ⟨v', l', e1, f1, e2, b1⟩ := h
      simp only [Bool.false_eq_true, if_false, List.map_eq_nil_iff] at e1 e2
      subst e2
      obtain ⟨a, c, ev⟩ := f1.o.isSlice
      subst ev
      exact ⟨a, c, e1, b1⟩
  have e0 := G4.c0
  have e1 := G4.c1
  have e2 := G4.c2
  have e3 := X4.c0
  have e4 := X4.c1
  have cL := fun W (h : SReads W (.slice va l.length vc) l) => lay_right (K := K) (M := M) (B := Bb) (q := q) h (by omega) hR
  clear hR hf hLd hdn hdk hsz hl
  replace hal := Lib.hid hal
  replace hmul := Lib.hid hmul
  have haz' := Lib.hid haz
  clear haz
  generalize layS q l = S at *
  generalize allT l = AA at *
  go_wp2_with (fail)
  refine (cL _ L4).mono ?_
  rintro e w5 ⟨u, rfl, ou, b5⟩
  have G5 := G4.below b5 G4.lt
  have B5 := B4.trans (b5.mono (by have := G4.lt; omega))
  obtain ⟨ua, uc, ev⟩ := ou.isSlice
  rw [List.length_map] at ev
  subst ev
  obtain ⟨bb0, bc, hbv, hb1, hb2⟩ := ou.form (by rw [List.length_map]; exact ha1)
  simp only [List.length_map, Value.slice.injEq, true_and] at hbv
  obtain ⟨rfl, rfl⟩ := hbv
  clear e0 e1 e2 e3 e4 G4 X4 L4 F4 B4 b5 cL
  obtain ⟨i0, hi, hz0, hz1, hz2⟩ := info_parts Tryd.infoT
  obtain ⟨vo, w6, hcp, o6, b6⟩ := ou.reads.copy_run (P := Tryd.prog) (T := 27) Tryd.underlying27 hi hz0 hz1 hz2 rfl (fun x hx => by obtain ⟨t, _, rfl⟩ := List.mem_map.1 hx; rfl) (by simp; omega) (by simp; omega)
  obtain ⟨go, oc, hov, ho1, ho2⟩ := o6.form (by rw [List.length_map]; exact ha1)
  rw [List.length_map] at hov
  subst hov
  have G6 := G5.below b6 G5.lt
  have B6 := B5.trans (b6.mono (by have := G5.lt; omega))
  have u6 := ou.after b6
  have hg5 : g < w5.heap.size := G5.lt
  have hgo : g < go := by omega
  have hA1 : ¬ ((AA.length : Int) < 1) := by omega
  clear G5 B5 ou b6
  go_wp2_with (fail)
  refine (cP _).mono ?_
  rintro e w' ⟨rfl, rfl⟩
  go_wp2_with (at_builtin; refine wpList_append_run hcp _ _ rfl rfl rfl rfl rfl ?_)
  refine (cR _).mono ?_
  rintro e w' ⟨rfl, rfl⟩
  clear cP cR hcp
  have hd3 : d < 3 := by omega
  clear hd
  rcases (by omega : d = 0 ∨ d = 1 ∨ d = 2) with rfl | rfl | rfl
  · obtain ⟨vn, w7, hap, o7, b7⟩ := o6.push (P := Tryd.prog) (T := 27) Tryd.underlying27 hi hz0 hz1 hz2 rfl (.string AA[z]) rfl (by omega) (by simp; omega) (by simp; omega)
    have cz := u6.cell (i := z) (by rw [List.length_map]; exact hzl)
    have ez : (AA.map Value.string).getD z .nilFunc = .string AA[z] := by rw [List.getD_eq_getElem?_getD, List.getElem?_map, List.getElem?_eq_getElem hzl]; rfl
    rw [ez] at cz
    have G7 := G6.below b7 hg5
    have B7 := B6.trans (b7.mono (by omega))
    have hap' : (Builtin.append_ #[27, 27] 27 #[.slice (some ⟨go, 0, none⟩) AA.length oc, .slice (some ⟨w6.heap.size, 0, none⟩) 1 1]).run Tryd.prog (w6.alloc (.cells #[.string AA[z]] 9)) = .ok vn w7 := hap
    have om : AA.map Value.string ++ [.string AA[z]] = (AA ++ [AA[z]]).map .string := by rw [List.map_append]; rfl
    rw [om] at o7
    have hroom := o7.room
    obtain ⟨na, nc, ev⟩ := o7.isSlice
    rw [List.length_map, List.length_append, List.length_singleton] at ev
    subst ev
    have hno : takeB K M Bb S (AA ++ [AA[z]]) = false := by
      cases h : takeB K M Bb S (AA ++ [AA[z]]) with
      | false => rfl
      | true => have := (htake.out _ h).1; rw [List.length_append, List.length_singleton] at this; omega
    have hsz : ∀ t ∈ AA ++ [AA[z]], t.size ≤ 140737488355328 := fun t ht => by
      rcases List.mem_append.1 ht with ht | ht
      · have := haz'.out t ht; omega
      · rw [List.mem_singleton.1 ht]; have := haz'.out _ (List.getElem_mem hzl); omega
    have cE := cT.out (AA ++ [AA[z]]) w7 (.slice na (AA.length + 1) nc) o7.reads hsz (by rw [List.length_append, List.length_singleton]; omega) hroom hno
    have f0 := G7.c0
    have f1 := G7.c1
    have f2 := G7.c2
    have hgW := G7.lt
    have hz3 : (z : Int) < (AA.length : Int) := by omega
    clear hi hz0 hz1 hz2 i0 om hap G6 B6 u6 o6 o7 hno hsz hroom ez
    go_wp2_with (at_builtin; refine wpList_append_run hap' _ _ rfl rfl rfl rfl rfl ?_)
    refine cE.mono ?_
    rintro e wz ⟨ta, tc, rfl, bz⟩
    go_wp2_with (fail)
    go_ret
    exact ⟨rfl, by rw [hp.out]; exact (B7.trans (bz.mono (by omega))).trans ((Below.refl _ _).alloc (by have := bz.size; omega) _)⟩
  · obtain ⟨na, hsl, hr1⟩ := o6.from1 (P := Tryd.prog) (T := 27) Tryd.underlying27 hi hz1 (by rw [List.length_map]; exact ha1)
    have hroom := o6.room _ _ _ rfl
    have hno : takeB K M Bb S (AA.drop 1) = false := by
      cases h : takeB K M Bb S (AA.drop 1) with
      | false => rfl
      | true => have := (htake.out _ h).1; rw [List.length_drop] at this; omega
    have hsz : ∀ t ∈ AA.drop 1, t.size ≤ 140737488355328 := fun t ht => by have := haz'.out t (List.mem_of_mem_drop ht); omega
    rw [← List.map_drop] at hr1
    have cE := cT.out (AA.drop 1) w6 (.slice na (AA.length - 1) (oc - 1)) hr1 hsz (by rw [List.length_drop]; omega) (fun a n c e => by simp at e; omega) hno
    have f0 := G6.c0
    have f1 := G6.c1
    have f2 := G6.c2
    have hgW := G6.lt
    clear hi hz0 hz1 hz2 i0 u6 o6 hno hsz hr1
    go_wp2_with (fail)
    refine cE.mono ?_
    rintro e wz ⟨ta, tc, rfl, bz⟩
    go_wp2_with (fail)
    go_ret
    exact ⟨rfl, by rw [hp.out]; exact (B6.trans (bz.mono (by omega))).trans ((Below.refl _ _).alloc (by have := bz.size; omega) _)⟩
  · by_cases ht0 : turn = 0
    · subst ht0
      go_wp2_with (fail)
      go_ret
      exact ⟨rfl, by rw [hp.out]; exact B6⟩
    · have t0 : (((turn : Nat) : Int) == 0) = false := by rw [beq_eq_false_iff_ne]; omega
      have t0' : ¬ turn = 0 := ht0
      have hs120 : AA[z].size = 120 := haz'.out _ (List.getElem_mem hzl)
      have hX : AA[z].data.toList.length = 120 := by rw [← Rm.size_list]; exact hs120
      have hT1s : (lineOf (turnL AA[z].data.toList c turn 4)).size = 120 := by rw [lineOf_size, turn_length, hX]
      have hno : takeB K M Bb S (AA.set z (lineOf (turnL AA[z].data.toList c turn 4))) = false := by
        cases h : takeB K M Bb S (AA.set z (lineOf (turnL AA[z].data.toList c turn 4))) with
        | false => rfl
        | true =>
          have h2 := (htake.out _ h).2
          have e := sum_turned (k := c) hzl (t := lineOf (turnL AA[z].data.toList c turn 4)) (by rw [list_lineOf, turn_length]) (fun j hj => by
            rw [list_lineOf]
            rcases Nat.lt_or_ge j 120 with h1 | h1
            · rw [turn_get _ _ _ _ (by omega), if_neg (by omega)]
            · rw [List.getD_eq_getElem?_getD, List.getD_eq_getElem?_getD, List.getElem?_eq_none (by rw [turn_length]; omega), List.getElem?_eq_none (by omega)]) h2
          have e2 := congrArg (fun b => b.data.toList) e
          simp only [list_lineOf] at e2
          exact absurd e2 (turn_ne _ _ _ (by omega) ht0 htn)
      have hsz : ∀ t ∈ AA.set z (lineOf (turnL AA[z].data.toList c turn 4)), t.size ≤ 140737488355328 := fun t ht => by
        rcases mem_set_of ht with rfl | ht
        · omega
        · have := haz'.out t ht; omega
      have cE := cT.out (AA.set z (lineOf (turnL AA[z].data.toList c turn 4)))
      have cz := o6.cell (i := z) (by rw [List.length_map]; exact hzl)
      have ez : (AA.map Value.string).getD z .nilFunc = .string AA[z] := by rw [List.getD_eq_getElem?_getD, List.getElem?_map, List.getElem?_eq_getElem hzl]; rfl
      rw [ez] at cz
      obtain ⟨s, hs⟩ : ∃ s, AA[z] = s := ⟨_, rfl⟩
      rw [hs] at hs120 hX hT1s hno hsz cE cz
      obtain ⟨cap, w7, C, hmk, r7, b7, z7⟩ := MRow.make_run w6 s
      obtain ⟨y, hy⟩ : ∃ y, w6.heap.size = y := ⟨_, rfl⟩
      rw [hy] at hmk r7 b7
      obtain ⟨X, hXX⟩ : ∃ X, s.data.toList = X := ⟨_, rfl⟩
      rw [hXX] at hX hT1s hno hsz cE r7
      have hroom := o6.room
      have hgoy : go < y := by omega
      have hsl : Hid (X.length = 120) := Lib.hid hX
      have hss := Lib.hid hs120
      have hcc : 2 * 2 = 4 := rfl
      replace hno := Lib.hid hno
      replace hsz := Lib.hid hsz
      replace hT1s := Lib.hid hT1s
      replace cE := Lib.hid cE
      replace hy := Lib.hid hy
      replace hXX := Lib.hid hXX
      replace hs := Lib.hid hs
      have hs1 : s.size ≤ 140737488355328 := by omega
      clear hX hs120 ez z7 hi hz0 hz1 hz2 i0 u6 hcc
      have hz3 : (z : Int) < (AA.length : Int) := by omega
      go_wp2_with (fail)
      refine (cQ _).mono ?_
      rintro e w' ⟨rfl, rfl⟩
      go_wp2_with (fail)
      clear cz
      go_loopw [19] (fun t wr => ∃ k : Nat, k ≤ 4 ∧ t = .int .i64 (k : Int) ∧ MRow wr y C (turnL X c turn k) ∧ Below y w6 wr) (fun t _ => 4 - (intOf t).toNat)
      case atStart => exact ⟨0, by omega, rfl, by rw [turn_zero]; exact r7, b7⟩
      case round =>
        obtain ⟨k, hk, rfl, hM, hB⟩ := hrel
        rename World => wr
        have hlen := turn_length X c turn k
        rw [hsl.out] at hlen
        by_cases hlt : k < 4
        · have b1' : (k : Int) < 4 := by omega
          have hnx := Lib.hid (turn_succ X c turn k (by rw [hsl.out]; omega))
          obtain ⟨m, hmm⟩ : ∃ m, m = c + k := ⟨_, rfl⟩
          have e0 : (c : Int) + (k : Int) = (m : Int) := by omega
          rw [← hmm] at hnx
          have cz := hM.cell (i := m) (by omega)
          have fz := hM.frozen (i := m) (by omega)
          have hss' := hss.out
          have b3 : (m : Int) < (s.size : Int) := by omega
          have hmlt : m < (turnL X c turn k).length := by omega
          have hv : Hid (bits .xor .u8 ((((turnL X c turn k)[m].toNat : Nat) : Int)) ((turn : Int) / 2 ^ (8 * k) % 256) = (((UInt8.ofNat (((turnL X c turn k).getD m 0).toNat ^^^ (turn / 256 ^ k % 256))).toNat : Nat) : Int)) := Lib.hid (by
            rw [shr_byte, Pk.byte_nat, xor_byte _ _ (Nat.mod_lt _ (by decide)), show (turnL X c turn k).getD m 0 = (turnL X c turn k)[m] by rw [List.getD_eq_getElem?_getD, List.getElem?_eq_getElem hmlt]; rfl]
            exact xor8 _ _ (UInt8.toNat_lt _) (Nat.mod_lt _ (by decide)))
          have HM := Lib.hid hmm
          have HL := Lib.hid hlen
          clear hmm hlen hss'
          go_wp2
          go_region
          go_wp2
          go_roundw
          case rel => exact ⟨k + 1, by omega, by go_num, by rw [hnx.out]; exact (hM.set hmlt _ _ hv.out).drew, (hB.setCell (p := ⟨y, m, none⟩) (Nat.le_refl _) _).drew⟩
          case measure => simp [intOf]; omega
        · obtain rfl : k = 4 := by omega
          have hcv := hM.str s.size cap (by rw [turn_length, hsl.out, hss.out])
          obtain ⟨T1, hT1⟩ : ∃ T1, lineOf (turnL X c turn 4) = T1 := ⟨_, rfl⟩
          rw [hT1] at hcv hno hsz hT1s cE
          have o7 := o6.below hB (fun k hk => by have e : go = k := Option.some.inj hk; omega)
          have ct := o7.cell (i := z) (by rw [List.length_map]; exact hzl)
          have cf := o7.frozen z
          have o8 := o7.set z (.string T1)
          rw [← List.map_set] at o8
          have G8 := (G6.below hB (by omega)).heap (Below.heap_setCell wr ⟨go, z, none⟩ (.string T1) g (by show g ≠ go; omega)) (by simp)
          have B8 := (B6.trans (hB.mono (by omega))).setCell (p := ⟨go, z, none⟩) (by show p ≤ go; omega) (.string T1)
          have cE' := cE.out _ _ o8.reads hsz.out (by rw [List.length_set]; omega) hroom hno.out
          replace hT1 := Lib.hid hT1
          have f0 := G8.c0
          have f1 := G8.c1
          have f2 := G8.c2
          have hgW := G8.lt
          clear hlen r7 b7 o7 o8 o6 G6 B6 hM hB cE hno hsz hroom
          go_wp2_with (fail)
          refine cE'.mono ?_
          rintro e wz ⟨ta, tc, rfl, bz⟩
          go_wp2_with (fail)
          go_ret
          exact ⟨rfl, by rw [hp.out]; exact (B8.trans (bz.mono (by omega))).trans ((Below.refl _ _).alloc (by have := bz.size; omega) _)⟩
end Go.Proofs.YtdbjfofnkijmoaaDoor
