/- record: a head that was turned. -/
import Derived.Test.YtdbjfofnkijmoaaDoorRecHdM
namespace Go.Proofs.YtdbjfofnkijmoaaDoor
open Go.RowKit
set_option linter.unusedVariables false
set_option linter.unusedSimpArgs false

open Rc
set_option maxRecDepth 100000 in
set_option maxHeartbeats 4000000 in
theorem rheads_walk (r : Raw) (vs vl : Value) (atr turn : Int) (w : World) (hok : RawOk r) (hst : Reads w vs (r.st.map (.int .i64))) (hle : Reads w vl (r.le.map (.int .i64))) (ha : -9223372036854775808 ≤ atr ∧ atr ≤ 9223372036854775807) (ht : -9223372036854775808 ≤ turn ∧ turn ≤ 9223372036854775807) :
    Calls Tryd.prog 6 #[r.v vs vl, .int .i64 atr, .int .i64 turn] w fun e w' => e = .returned (.bool true) ∧ Below w.heap.size w w' := by
  obtain ⟨p, hp⟩ : ∃ p, w.heap.size = p := ⟨_, rfl⟩
  have A0 := RwB.made w r vs vl 42
  have b0 : Below p w (w.alloc (.cells #[.int .i64 r.k, .int .i64 r.m, .int .i64 r.b, .int .i64 r.q, vs, vl] 42)) := (Below.refl _ _).alloc (by omega) _
  rw [hp] at A0
  have hst1 := hst.below (by rw [hp]; exact b0)
  have hle1 := hle.below (by rw [hp]; exact b0)
  clear hst hle
  unfold Raw.v
  go_enter Tryd.func6, Tryd.ntmps6
  go_wp2_with (fail)
  replace hp := Lib.hid hp
  generalize w.alloc (.cells #[.int .i64 r.k, .int .i64 r.m, .int .i64 r.b, .int .i64 r.q, vs, vl] 42) = w0 at *
  refine (awake11_any _).mono ?_
  rintro e w1 ⟨rfl, b1⟩
  have A1 := A0.below b1 A0.lt
  have B1 := b0.trans (b1.mono (by have := A0.lt; omega))
  have hst2 := hst1.below b1
  have hle2 := hle1.below b1
  obtain ⟨sa, sc, hvs⟩ := hst2.isSlice
  obtain ⟨la, lc, hvl⟩ := hle2.isSlice
  rw [List.length_map] at hvs hvl
  subst hvs
  subst hvl
  clear A0 b0 b1 hst1 hle1
  have e0 := A1.a0
  have e1 := A1.a1
  have e2 := A1.a2
  have e3 := A1.a3
  have e4 := A1.a4
  have e5 := A1.a5
  have cF := fit11_any r _ _ w1 hok hst2 hle2
  unfold Raw.v at cF
  go_wp2_with (fail)
  refine cF.mono ?_
  rintro e w2 ⟨v, l, rfl, F2, hl, b2⟩
  have B2 := B1.trans (b2.mono (by have := A1.lt; omega))
  have A2 := A1.below b2 A1.lt
  have hst3 := hst2.below b2
  have hle3 := hle2.below b2
  have hpw : p < w2.heap.size := A2.lt
  clear e0 e1 e2 e3 e4 e5 cF A1 B1 b2 hst2 hle2
  have hR := fit_ok11 r hl
  have hf := right_f hR
  obtain ⟨va, vc, ev⟩ := F2.o.isSlice
  subst ev
  have L2 := F2.reads (right_reads hR)
  obtain ⟨g, hg⟩ : ∃ g, w2.heap.size = g := ⟨_, rfl⟩
  have G3 := GBx.made w2 (fK r.k) (fM r.m) (fB r.b) 23
  have bb : Below g w2 (w2.alloc (.cells #[.int .i64 (fK r.k), .int .i64 (fM r.m), .int .i64 (fB r.b)] 23)) := (Below.refl _ _).alloc (by omega) _
  have s3 : (w2.alloc (.cells #[.int .i64 (fK r.k), .int .i64 (fM r.m), .int .i64 (fB r.b)] 23)).heap.size = g + 1 := by simp [hg]
  have X4 := RBx.made (w2.alloc (.cells #[.int .i64 (fK r.k), .int .i64 (fM r.m), .int .i64 (fB r.b)] 23)) (fitQ r) (.slice va l.length vc) 26
  have b4 : Below (g + 1) (w2.alloc (.cells #[.int .i64 (fK r.k), .int .i64 (fM r.m), .int .i64 (fB r.b)] 23)) ((w2.alloc (.cells #[.int .i64 (fK r.k), .int .i64 (fM r.m), .int .i64 (fB r.b)] 23)).alloc (.cells #[.int .i64 (fitQ r), .slice va l.length vc] 26)) := (Below.refl _ _).alloc (by omega) _
  rw [hg] at G3
  rw [s3] at X4
  have G4 := G3.below b4 (by omega)
  have b24 := bb.trans (b4.mono (by omega))
  have L4 := L2.below (by rw [hg]; exact b24)
  have F4 := F2.after (by rw [hg]; exact b24)
  have A4 := A2.below b24 (by omega)
  have hst4 := hst3.below (by rw [hg]; exact b24)
  have hle4 := hle3.below (by rw [hg]; exact b24)
  have B4 := B2.trans (b24.mono (by omega))
  go_upto_region 3 with (fail)
  generalize (w2.alloc (.cells #[.int .i64 (fK r.k), .int .i64 (fM r.m), .int .i64 (fB r.b)] 23)).alloc (.cells #[.int .i64 (fitQ r), .slice va l.length vc] 26) = w4 at *
  clear F2 L2 G3 bb s3 b4 b24 B2 A2 hst3 hle3
  replace hg := Lib.hid hg
  clear A4 hst4 hle4 hok
  have hpg : p < g := by have := hg.out; omega
  generalize fK r.k = K at *
  generalize fM r.m = M at *
  generalize fB r.b = Bb at *
  generalize fitQ r = q at *
  have hk := hf.k
  have hn := hf.n
  have hsz := lay_size (right_ord hR)
  have hdk : ∀ s ∈ l, s.d.length = K.toNat := fun s hs => by have := hf.d s hs; omega
  have ha64 : (allT l).length ≤ 64 := by rw [allT_len hdk]; exact Nat.le_trans (Nat.mul_le_mul hn.2 (show K.toNat ≤ 4 by omega)) (by decide)
  have haz : ∀ t ∈ allT l, t.size ≤ 140737488355328 := fun t ht => by
    obtain ⟨s, hs, ht⟩ := List.mem_flatMap.1 ht
    have := hf.z s hs t ht; omega
  have hz := pk_rng atr ((layS q l).size : Int) (by omega)
  obtain ⟨z, hzz⟩ := Int.eq_ofNat_of_zero_le hz.1
  have cP := fun W => pick11_any atr ((layS q l).size : Int) W ha.1 ha.2 (by omega) (by omega)
  rw [hzz] at cP hz
  have hc := pk_rng turn 255 (by decide)
  obtain ⟨c, hcc⟩ := Int.eq_ofNat_of_zero_le hc.1
  have cQ := fun W => pick11_any turn 255 W ht.1 ht.2 (by decide) (by decide)
  rw [hcc] at cQ hc
  clear hzz hcc ha ht
  have hzs : z < (layS q l).size := by omega
  have hzl : z < (layS q l).data.toList.length := by rw [← Rm.size_list]; exact hzs
  have hTz : (lineOf ((layS q l).data.toList.set z (UInt8.ofNat (((layS q l).data.toList.getD z 0).toNat ^^^ (1 + c))))).size = (layS q l).size := by rw [lineOf_size, List.length_set, ← Rm.size_list]
  have hTne : lineOf ((layS q l).data.toList.set z (UInt8.ofNat (((layS q l).data.toList.getD z 0).toNat ^^^ (1 + c)))) ≠ layS q l := fun e => by
    have e1 := congrArg (fun b => b.data.toList.getD z 0) e
    simp only [list_lineOf] at e1
    rw [List.getD_eq_getElem?_getD, List.getElem?_set, if_pos rfl, if_pos hzl, Option.getD_some] at e1
    exact xor_ne _ _ (by omega) (by omega) e1
  have hno := fun (T : ByteArray) (h1 : T.size = (layS q l).size) (h2 : takeB K M Bb T (allT l) = true) (h3 : hdQ T = q) (h4 : takeL K T (allT l) = l.map pr) => head_same hR h1 h2 h3 h4
  obtain ⟨T, hT⟩ : ∃ T, lineOf ((layS q l).data.toList.set z (UInt8.ofNat (((layS q l).data.toList.getD z 0).toNat ^^^ (1 + c)))) = T := ⟨_, rfl⟩
  have hsd : ∀ m : List St, takeB K M Bb T (allT l) = true → m.map pr = takeL K T (allT l) → sameB (hdQ T) m q l = false := fun m h2 hm => by
    cases hs : sameB (hdQ T) m q l with
    | false => rfl
    | true =>
      unfold sameB at hs
      simp only [Bool.and_eq_true, beq_iff_eq, decide_eq_true_eq] at hs
      have hm2 : m.map pr = l.map pr := hs.2
      exact absurd (hno T (by rw [← hT]; exact hTz) h2 hs.1 (by rw [← hm]; exact hm2)) (by rw [← hT]; exact hTne)
  have hrt : ∀ m : List St, takeB K M Bb T (allT l) = true → m.map pr = takeL K T (allT l) → rightB K M Bb (hdQ T) m = true := fun m h2 hm => take_right h2 hm
  replace hsd := Lib.hid hsd
  replace hrt := Lib.hid hrt
  have hTs : T.size ≤ 300 := by rw [← hT, hTz]; omega
  have e0 := G4.c0
  have e1 := G4.c1
  have e2 := G4.c2
  have e3 := X4.c0
  have e4 := X4.c1
  have cL := fun W (h : SReads W (.slice va l.length vc) l) => lay_right (K := K) (M := M) (B := Bb) (q := q) h (by omega) hR
  have cT := fun W v h hc => take11_any K M Bb T v (allT l) W (by omega) h haz (by omega) hc
  unfold GivesTk at cT
  have hs16 : ¬ ((layS q l).size : Int) < 16 := by omega
  have hs32 : (layS q l).size ≤ 31 := by omega
  clear hR hf hsz hdk haz hno hTz hTne hl
  generalize layS q l = S at *
  generalize allT l = AA at *
  have hTh := Lib.hid hT
  clear hT
  go_wp2_with (fail)
  refine (cL _ L4).mono ?_
  rintro e w5 ⟨u, rfl, ou, b5⟩
  have G5 := G4.below b5 G4.lt
  have X5 := X4.below b5 X4.lt
  have L5 := L4.below b5
  have B5 := B4.trans (b5.mono (by have := G4.lt; omega))
  have hcap := ou.room
  obtain ⟨ua, uc, ev⟩ := ou.isSlice
  rw [List.length_map] at ev
  subst ev
  clear e0 e1 e2 e3 e4 G4 X4 L4 F4 B4 b5 cL
  obtain ⟨cap, w6, C, hmk, r6, b6, z6⟩ := MRow.make_run w5 S
  have G6 := G5.below b6 G5.lt
  have X6 := X5.below b6 X5.lt
  have L6 := L5.below b6
  have B6 := B5.trans (b6.mono (by have := G5.lt; omega))
  have o6 := ou.after b6
  obtain ⟨y, hy⟩ : ∃ y, w5.heap.size = y := ⟨_, rfl⟩
  have hgy := X5.lt
  rw [hy] at hmk r6 hgy
  have hob : Hid (∀ k, (Value.slice ua AA.length uc).ownBlock = some k → k < y) := Lib.hid fun k hk => by have := (ou.o.lt k hk).2; omega
  have hL5 := Lib.hid L5
  have hw56 : Hid (Below y w5 w6) := Lib.hid (by rw [← hy]; exact b6)
  clear G5 X5 L5 B5 ou b6 z6
  replace hy := Lib.hid hy
  go_wp2_with (fail)
  refine (cP _).mono ?_
  rintro e w' ⟨rfl, rfl⟩
  have cz := r6.cell (i := z) hzl
  have fz := r6.frozen (i := z) hzl
  have hb : 1 + c < 256 := by omega
  obtain ⟨bz, hbz⟩ : ∃ bz : UInt8, S.data.toList.getD z 0 = bz := ⟨_, rfl⟩
  rw [hbz] at cz hTh
  have hv : bits .xor .u8 ((bz.toNat : Nat) : Int) (1 + (c : Int)) = (((UInt8.ofNat (bz.toNat ^^^ (1 + c))).toNat : Nat) : Int) := by
    rw [xor_byte _ _ hb, show (1 : Int) + (c : Int) = ((1 + c : Nat) : Int) by omega]
    exact xor8 _ _ (UInt8.toNat_lt _) hb
  obtain ⟨v8, hv8⟩ : ∃ v8 : UInt8, UInt8.ofNat (bz.toNat ^^^ (1 + c)) = v8 := ⟨_, rfl⟩
  rw [hv8] at hv hTh
  have r7 := Lib.hid (r6.set hzl v8 ((v8.toNat : Nat) : Int) rfl)
  have hu1 : IntKind.u8.wrap (1 + (c : Int)) = 1 + (c : Int) := IntWalk.u8_in _ (by omega)
  have hu2 : IntKind.i64.wrap (1 + (c : Int)) = 1 + (c : Int) := IntWalk.i64_in _ (by omega)
  replace hv8 := Lib.hid hv8
  replace hbz := Lib.hid hbz
  have hb3 : (z : Int) < (S.size : Int) := hz.2
  clear r6
  go_wp2_with (fail)
  go_region_with (go_at_call 22; refine (cQ _).mono ?_; rintro e w' ⟨rfl, rfl⟩)
  all_goals
    have r8 := r7.out.drew
    have hcv := r8.str S.size cap (by rw [List.length_set]; exact Rm.size_list _)
    rw [hTh.out] at hcv
    have hk8 : ∀ i, i ≠ y → (w6.setCell ⟨y, z, none⟩ (.int .u8 ((v8.toNat : Nat) : Int))).drew.heap[i]? = w6.heap[i]? := fun i hi => Below.heap_setCell _ _ _ _ (by show i ≠ y; exact hi)
    have hs8 : w6.heap.size ≤ (w6.setCell ⟨y, z, none⟩ (.int .u8 ((v8.toNat : Nat) : Int))).drew.heap.size := by simp
    have hb8 : Below y w6 (w6.setCell ⟨y, z, none⟩ (.int .u8 ((v8.toNat : Nat) : Int))).drew := ((Below.refl y w6).setCell (p := ⟨y, z, none⟩) (Nat.le_refl y) _).drew
    have G8 := G6.heap (hk8 g (by omega)) hs8
    have X8 := X6.heap (hk8 (g + 1) (by omega)) hs8
    have o8 := o6.below hb8 (fun k hk => hob.out k hk)
    have L8 := hL5.out.below (by rw [hy.out]; exact hw56.out.trans hb8)
    have B8 := B6.trans (hb8.mono (by omega))
    clear hk8 hs8 hb8 G6 X6 L6 B6 o6 r8 cz fz hmk r7
    generalize (w6.setCell ⟨y, z, none⟩ (.int .u8 ((v8.toNat : Nat) : Int))).drew = w8 at *
    have e0 := G8.c0
    have e1 := G8.c1
    have e2 := G8.c2
    go_wp2_with (fail)
    refine (cT _ _ o8.reads hcap).mono ?_
    rintro e w9 ⟨vt, m, rfl, ft, hm, b9⟩
    have G9 := G8.below b9 G8.lt
    have X9 := X8.below b9 X8.lt
    have L9 := L8.below b9
    have B9 := B8.trans (b9.mono (by have := G8.lt; omega))
    clear e0 e1 e2 G8 X8 L8 B8 o8 b9 hcv cT
    obtain ⟨ta, tc, ev⟩ := ft.o.isSlice
    subst ev
    obtain ⟨x, hx⟩ : ∃ x, w9.heap.size = x := ⟨_, rfl⟩
    cases htb : takeB K M Bb T AA with
    | false =>
      rw [htb] at hm
      simp only [Bool.false_eq_true, if_false, List.map_eq_nil_iff] at hm ⊢
      subst hm
      rw [List.length_nil]
      have Y9 := RBx.made w9 0 (.slice ta 0 tc) 26
      have bb : Below w9.heap.size w9 (w9.alloc (.cells #[.int .i64 0, .slice ta 0 tc] 26)) := (Below.refl _ _).alloc (Nat.le_refl _) _
      rw [hx] at Y9
      have B10 := B9.trans (bb.mono (by have := G9.lt; omega))
      go_upto_region 10 with (fail)
      clear hx G9 X9 L9 B9 bb ft
      generalize w9.alloc (.cells #[.int .i64 0, .slice ta 0 tc] 26) = w10 at *
      have e0 := Y9.c0
      have e1 := Y9.c1
      go_wp2_with (fail)
      go_ret
      exact ⟨rfl, by rw [hp.out]; exact B10⟩
    | true =>
      rw [htb] at hm
      simp only [if_true] at hm ⊢
      have hsm := hsd.out m htb hm
      have hri := hrt.out m htb hm
      have M9 := ft.reads (right_reads hri)
      have hml := (right_f hri).n
      generalize hdQ T = q2 at *
      have Y9 := RBx.made w9 q2 (.slice ta m.length tc) 26
      have bb : Below w9.heap.size w9 (w9.alloc (.cells #[.int .i64 q2, .slice ta m.length tc] 26)) := (Below.refl _ _).alloc (Nat.le_refl _) _
      rw [hx] at Y9
      have B10 := B9.trans (bb.mono (by have := G9.lt; omega))
      have G10 := G9.below bb G9.lt
      have X10 := X9.below bb X9.lt
      have L10 := L9.below bb
      have M10 := M9.below bb
      go_upto_region 10 with (fail)
      clear hx G9 X9 L9 B9 bb ft M9 htb hm
      generalize w9.alloc (.cells #[.int .i64 q2, .slice ta m.length tc] 26) = w10 at *
      have e0 := G10.c0
      have e1 := G10.c1
      have e2 := G10.c2
      have e3 := X10.c0
      have e4 := X10.c1
      have e5 := Y9.c0
      have e6 := Y9.c1
      go_wp2_with (fail)
      refine (rsame11_any q2 q (.slice ta m.length tc) (.slice va l.length vc) m l w10 M10 L10 (by omega)).mono ?_
      rintro e w11 ⟨rfl, b11⟩
      rw [hsm]
      have G11 := G10.below b11 G10.lt
      have Y11 := Y9.below b11 Y9.lt
      have M11 := M10.below b11
      have B11 := B10.trans (b11.mono (by have := G10.lt; omega))
      clear e0 e1 e2 e3 e4 e5 e6 b11 G10 X10 L10 M10 B10 Y9
      have e0 := G11.c0
      have e1 := G11.c1
      have e2 := G11.c2
      have e5 := Y11.c0
      have e6 := Y11.c1
      have cR := right11_any K M Bb q2 (.slice ta m.length tc) m w11 M11 (by omega)
      rw [hri] at cR
      go_wp2_with (fail)
      refine cR.mono ?_
      rintro e w12 ⟨rfl, b12⟩
      go_wp2_with (fail)
      go_ret
      exact ⟨rfl, by rw [hp.out]; exact B11.trans (b12.mono (by have := G11.lt; omega))⟩
end Go.Proofs.YtdbjfofnkijmoaaDoor
