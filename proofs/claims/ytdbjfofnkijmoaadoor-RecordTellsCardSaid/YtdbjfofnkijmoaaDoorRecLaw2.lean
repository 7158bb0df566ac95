/- record: Take undoes Lay. -/
import Derived.Test.YtdbjfofnkijmoaaDoorRecAwake
namespace Go.Proofs.YtdbjfofnkijmoaaDoor
open Go.RowKit
set_option linter.unusedVariables false
set_option linter.unusedSimpArgs false

open Rc
/-- A raw record in a box. -/
structure RwB (w : World) (p : Nat) (r : Raw) (vs vl : Value) : Prop where
  a0 : w.cell? ⟨p, 0, none⟩ = some (.int .i64 r.k)
  a1 : w.cell? ⟨p, 1, none⟩ = some (.int .i64 r.m)
  a2 : w.cell? ⟨p, 2, none⟩ = some (.int .i64 r.b)
  a3 : w.cell? ⟨p, 3, none⟩ = some (.int .i64 r.q)
  a4 : w.cell? ⟨p, 4, none⟩ = some vs
  a5 : w.cell? ⟨p, 5, none⟩ = some vl
  lt : p < w.heap.size
theorem RwB.made (w : World) (r : Raw) (vs vl : Value) (T : TypeId) : RwB (w.alloc (.cells #[.int .i64 r.k, .int .i64 r.m, .int .i64 r.b, .int .i64 r.q, vs, vl] T)) w.heap.size r vs vl :=
  ⟨by rw [World.cell?_alloc_mark]; rfl, by rw [World.cell?_alloc_mark]; rfl, by rw [World.cell?_alloc_mark]; rfl, by rw [World.cell?_alloc_mark]; rfl, by rw [World.cell?_alloc_mark]; rfl, by rw [World.cell?_alloc_mark]; rfl, by simp⟩
theorem RwB.heap {w w' : World} {p : Nat} {r : Raw} {vs vl : Value} (h : RwB w p r vs vl) (e : w'.heap[p]? = w.heap[p]?) (hs : w.heap.size ≤ w'.heap.size) : RwB w' p r vs vl :=
  ⟨(cell_of_heap e _).trans h.a0, (cell_of_heap e _).trans h.a1, (cell_of_heap e _).trans h.a2, (cell_of_heap e _).trans h.a3, (cell_of_heap e _).trans h.a4, (cell_of_heap e _).trans h.a5, Nat.lt_of_lt_of_le h.lt hs⟩
theorem RwB.below {w w' : World} {C p : Nat} {r : Raw} {vs vl : Value} (h : RwB w p r vs vl) (hb : Below C w w') (hp : p < C) : RwB w' p r vs vl := h.heap (hb.block p hp) hb.size
/-- What a right record's laying is. -/
theorem lay_right {w : World} {K M B q : Int} {v : Value} {l : List St} (hl : SReads w v l) (hn : l.length ≤ 140737488351232) (hr : rightB K M B q l = true) :
    Calls Tryd.prog 10 #[.agg #[.int .i64 K, .int .i64 M, .int .i64 B], .agg #[.int .i64 q, v]] w fun e w' => ∃ u, e = .returned (.tuple #[.string (layS q l), u, .int .i64 0]) ∧ Own w' w.heap.size 9 u ((allT l).map .string) ∧ Below w.heap.size w w' :=
  (lay_any K M B q v l w hl hn).mono fun e w' h => by
    unfold GivesL at h
    rw [hr] at h
    exact h
theorem right_reads {K M B q : Int} {l : List St} (hr : rightB K M B q l = true) : ∀ s ∈ l, s.d.length ≤ 140737488355328 ∧ ∀ t ∈ s.d, t.size ≤ 140737488355328 := fun s hs => by
  have hf := right_f hr
  have hk := hf.k
  exact ⟨by have := hf.d s hs; omega, fun t ht => by have := hf.z s hs t ht; omega⟩
theorem same_pr {q : Int} {l m : List St} (h : m.map pr = l.map pr) : sameB q m q l = true := by
  unfold sameB
  have : m.map (fun s => (s.n, s.d)) = l.map (fun s => (s.n, s.d)) := h
  rw [decide_eq_true this]; simp
theorem right_pr {K M B q : Int} {l m : List St} (h : m.map pr = l.map pr) (hr : rightB K M B q l = true) : rightB K M B q m = true := by
  have h1 : m.map St.n = l.map St.n := by have := congrArg (List.map Prod.fst) h; simpa [List.map_map, pr, Function.comp_def] using this
  have h2 : m.map St.d = l.map St.d := by have := congrArg (List.map Prod.snd) h; simpa [List.map_map, pr, Function.comp_def] using this
  unfold rightB at hr ⊢
  rw [ordB_nums h1]
  simp only [Bool.and_eq_true] at hr ⊢
  refine ⟨hr.1, ?_⟩
  rw [List.all_eq_true] at hr ⊢
  intro s hs
  have : s.d ∈ l.map St.d := by rw [← h2]; exact List.mem_map.2 ⟨s, hs, rfl⟩
  obtain ⟨s', hs', e⟩ := List.mem_map.1 this
  have := hr.2 s' hs'
  unfold stB at this ⊢
  rw [← e]; exact this
set_option maxRecDepth 100000 in
set_option maxHeartbeats 4000000 in
theorem rback_walk (r : Raw) (vs vl : Value) (more : Int) (w : World) (hok : RawOk r) (hst : Reads w vs (r.st.map (.int .i64))) (hle : Reads w vl (r.le.map (.int .i64))) (hm : -9223372036854775808 ≤ more ∧ more ≤ 9223372036854775807) :
    Calls Tryd.prog 4 #[r.v vs vl, .int .i64 more] w fun e w' => e = .returned (.bool true) ∧ Below w.heap.size w w' := by
  obtain ⟨p, hp⟩ : ∃ p, w.heap.size = p := ⟨_, rfl⟩
  have A0 := RwB.made w r vs vl 42
  have b0 : Below p w (w.alloc (.cells #[.int .i64 r.k, .int .i64 r.m, .int .i64 r.b, .int .i64 r.q, vs, vl] 42)) := (Below.refl _ _).alloc (by omega) _
  rw [hp] at A0
  have hst1 := hst.below (by rw [hp]; exact b0)
  have hle1 := hle.below (by rw [hp]; exact b0)
  clear hst hle
  unfold Raw.v
  go_enter Tryd.func4, Tryd.ntmps4
  go_wp2_with (fail)
  replace hp := Lib.hid hp
  generalize w.alloc (.cells #[.int .i64 r.k, .int .i64 r.m, .int .i64 r.b, .int .i64 r.q, vs, vl] 42) = w0 at *
  refine (awake11_any _).mono ?_
  rintro e w1 ⟨rfl, b1⟩
  have A1 := A0.below b1 A0.lt
  have B1 := b0.trans (b1.mono (by have := A0.lt; omega))
  have hst2 := hst1.below b1
  have hle2 := hle1.below b1
  obtain ⟨sa, sc, hvs⟩ := hst2.isSlice
  obtain ⟨la, lc, hvl⟩ := hle2.isSlice
  rw [List.length_map] at hvs hvl
  subst hvs
  subst hvl
  clear A0 b0 b1 hst1 hle1
  have e0 := A1.a0
  have e1 := A1.a1
  have e2 := A1.a2
  have e3 := A1.a3
  have e4 := A1.a4
  have e5 := A1.a5
  have cF := fit11_any r _ _ w1 hok hst2 hle2
  unfold Raw.v at cF
  go_wp2_with (fail)
  refine cF.mono ?_
  rintro e w2 ⟨v, l, rfl, F2, hl, b2⟩
  have B2 := B1.trans (b2.mono (by have := A1.lt; omega))
  have A2 := A1.below b2 A1.lt
  have hst3 := hst2.below b2
  have hle3 := hle2.below b2
  have hpw : p < w2.heap.size := A2.lt
  clear e0 e1 e2 e3 e4 e5 cF A1 B1 b2 hst2 hle2
  have hR := fit_ok11 r hl
  have hf := right_f hR
  obtain ⟨va, vc, ev⟩ := F2.o.isSlice
  subst ev
  have L2 := F2.reads (right_reads hR)
  obtain ⟨g, hg⟩ : ∃ g, w2.heap.size = g := ⟨_, rfl⟩
  have G3 := GBx.made w2 (fK r.k) (fM r.m) (fB r.b) 23
  have bb : Below g w2 (w2.alloc (.cells #[.int .i64 (fK r.k), .int .i64 (fM r.m), .int .i64 (fB r.b)] 23)) := (Below.refl _ _).alloc (by omega) _
  have s3 : (w2.alloc (.cells #[.int .i64 (fK r.k), .int .i64 (fM r.m), .int .i64 (fB r.b)] 23)).heap.size = g + 1 := by simp [hg]
  have X4 := RBx.made (w2.alloc (.cells #[.int .i64 (fK r.k), .int .i64 (fM r.m), .int .i64 (fB r.b)] 23)) (fitQ r) (.slice va l.length vc) 26
  have b4 : Below (g + 1) (w2.alloc (.cells #[.int .i64 (fK r.k), .int .i64 (fM r.m), .int .i64 (fB r.b)] 23)) ((w2.alloc (.cells #[.int .i64 (fK r.k), .int .i64 (fM r.m), .int .i64 (fB r.b)] 23)).alloc (.cells #[.int .i64 (fitQ r), .slice va l.length vc] 26)) := (Below.refl _ _).alloc (by omega) _
  rw [hg] at G3
  rw [s3] at X4
  have G4 := G3.below b4 (by omega)
  have b24 := bb.trans (b4.mono (by omega))
  have L4 := L2.below (by rw [hg]; exact b24)
  have F4 := F2.after (by rw [hg]; exact b24)
  have A4 := A2.below b24 (by omega)
  have hst4 := hst3.below (by rw [hg]; exact b24)
  have hle4 := hle3.below (by rw [hg]; exact b24)
  have B4 := B2.trans (b24.mono (by omega))
  go_upto_region 3 with (fail)
  generalize (w2.alloc (.cells #[.int .i64 (fK r.k), .int .i64 (fM r.m), .int .i64 (fB r.b)] 23)).alloc (.cells #[.int .i64 (fitQ r), .slice va l.length vc] 26) = w4 at *
  clear F2 L2 G3 bb s3 b4 b24 B2 A2 hst3 hle3
  replace hg := Lib.hid hg
  clear A4 hst4 hle4 hok
  have hpg : p < g := by have := hg.out; omega
  generalize fK r.k = K at *
  generalize fM r.m = M at *
  generalize fB r.b = Bb at *
  generalize fitQ r = q at *
  have hk := hf.k
  have hn := hf.n
  have hsz := lay_size (right_ord hR)
  have e0 := G4.c0
  have e1 := G4.c1
  have e2 := G4.c2
  have e3 := X4.c0
  have e4 := X4.c1
  have cL := fun W (h : SReads W (.slice va l.length vc) l) => lay_right (K := K) (M := M) (B := Bb) (q := q) h (by omega) hR
  have cR := fun W (h : SReads W (.slice va l.length vc) l) => right11_any K M Bb q (.slice va l.length vc) l W h (by omega)
  rw [hR] at cR
  go_wp2_with (fail)
  refine (cL _ L4).mono ?_
  rintro e w5 ⟨u, rfl, ou, b5⟩
  have G5 := G4.below b5 G4.lt
  have X5 := X4.below b5 X4.lt
  have L5 := L4.below b5
  have B5 := B4.trans (b5.mono (by have := G4.lt; omega))
  have hcap := ou.room
  obtain ⟨ua, uc, ev⟩ := ou.isSlice
  rw [List.length_map] at ev
  subst ev
  clear e0 e1 e2 e3 e4 G4 X4 L4 F4 B4 b5 cL
  have hz := pk_rng more 100 (by decide)
  obtain ⟨z, hzz⟩ := Int.eq_ofNat_of_zero_le hz.1
  have cP := fun W => pick11_any more 100 W hm.1 hm.2 (by decide) (by decide)
  rw [hzz] at cP hz
  clear hzz hm
  obtain ⟨w6, hmk, hrow, hb6, hs6⟩ := BRow.make_run w5 z (by omega)
  obtain ⟨gm, hgm⟩ : ∃ gm, w5.heap.size = gm := ⟨_, rfl⟩
  rw [hgm] at hmk hrow
  replace hgm := Lib.hid hgm
  have hst := hrow.str z z (by simp)
  have hzN : zeroB (lineOf (List.replicate z 0)) = true := by unfold zeroB; simp [lineOf]
  have hNs : (lineOf (List.replicate z 0)).size = z := by rw [lineOf_size]; simp
  have hLd := laid (right_ord hR) hzN
  have hLt := laid_take hR hLd
  have hdn : (hdS (layS q l ++ lineOf (List.replicate z 0))).length = l.length := by rw [hLd.s, List.length_map]
  have hdk : ∀ s ∈ l, s.d.length = K.toNat := fun s hs => by have := hf.d s hs; omega
  have hal := allT_len hdk
  have haz : ∀ t ∈ allT l, t.size ≤ 140737488355328 := fun t ht => by
    obtain ⟨s, hs, ht⟩ := List.mem_flatMap.1 ht
    have := hf.z s hs t ht; omega
  have ha64 : (allT l).length ≤ 64 := by rw [hal]; exact Nat.le_trans (Nat.mul_le_mul hn.2 (show K.toNat ≤ 4 by omega)) (by decide)
  have hmul : (l.length : Int) * K = ((allT l).length : Int) := by rw [hal, Int.natCast_mul, Int.toNat_of_nonneg (by omega)]
  have cH := fun W => head11_any K M Bb (layS q l ++ lineOf (List.replicate z 0)) W (by rw [ByteArray.size_append, hNs, hsz]; omega)
  unfold GivesH at cH
  rw [hLd.t, hLd.q, hdn, hmul] at cH
  simp only [if_true] at cH
  have cT := fun W v h hc => take11_any K M Bb (layS q l ++ lineOf (List.replicate z 0)) v (allT l) W (by rw [ByteArray.size_append, hNs, hsz]; omega) h haz (by omega) hc
  unfold GivesTk at cT
  rw [hLt.1, hLt.2, hLd.q] at cT
  simp only [if_true] at cT
  have hwr : IntKind.i64.wrap ((l.length : Int) * K) = ((allT l).length : Int) := by rw [hmul]; exact IntWalk.i64_in _ (by omega)
  have hs1 : (layS q l ++ lineOf (List.replicate z 0)).size ≤ 300 := by rw [ByteArray.size_append, hNs, hsz]; omega
  have hs2 : (layS q l).size + (lineOf (List.replicate z 0)).size ≤ 300 := by rw [hNs, hsz]; omega
  have hs3 : (layS q l).size ≤ 120 := by omega
  have hs4 : (lineOf (List.replicate z 0)).size ≤ 120 := by omega
  have hs5 : ((layS q l).size : Int) ≤ 120 := by omega
  have hsame : ∀ m : List St, m.map pr = l.map pr → sameB q m q l = true := fun m hm => same_pr hm
  have hmr : ∀ m : List St, m.map pr = l.map pr → m.length = l.length ∧ ∀ s ∈ m, s.d.length ≤ 140737488355328 ∧ ∀ t ∈ s.d, t.size ≤ 140737488355328 := fun m hm => ⟨by have := congrArg List.length hm; simpa using this, right_reads (right_pr hm hR)⟩
  replace hsame := Lib.hid hsame
  replace hmr := Lib.hid hmr
  replace hmul := Lib.hid hmul
  replace hwr := Lib.hid hwr
  replace hal := Lib.hid hal
  have hb6' := hb6
  clear hR hf hLd hLt hdn hdk hsz hrow hb6 hs6 hzN haz hNs hl
  generalize layS q l = S at *
  generalize lineOf (List.replicate z 0) = N at *
  generalize allT l = AA at *
  go_wp2_with (fail)
  refine (cP _).mono ?_
  rintro e w' ⟨rfl, rfl⟩
  have G6 := G5.below hb6' G5.lt
  have X6 := X5.below hb6' X5.lt
  have L6 := L5.below hb6'
  have B6 := B5.trans (hb6'.mono (by have := G5.lt; omega))
  have o6 := ou.after hb6'
  clear cP hb6' G5 X5 L5 B5 ou
  have e0 := G6.c0
  have e1 := G6.c1
  have e2 := G6.c2
  go_wp2_with (fail)
  refine (cH _).mono ?_
  rintro e w7 ⟨rfl, b7⟩
  have G7 := G6.below b7 G6.lt
  have X7 := X6.below b7 X6.lt
  have L7 := L6.below b7
  have B7 := B6.trans (b7.mono (by have := G6.lt; omega))
  have o7 := o6.after b7
  clear cH b7 G6 X6 L6 B6 o6 e0 e1 e2 hmk hst
  have e0 := G7.c0
  have e1 := G7.c1
  have e2 := G7.c2
  go_wp2_with (fail)
  refine (cT _ _ o7.reads hcap).mono ?_
  rintro e w8 ⟨vt, m, rfl, ft, hm, b8⟩
  have ms := hsame.out m hm
  obtain ⟨hml, hmd⟩ := hmr.out m hm
  have M8 := ft.reads hmd
  have G8 := G7.below b8 G7.lt
  have X8 := X7.below b8 X7.lt
  have L8 := L7.below b8
  have B8 := B7.trans (b8.mono (by have := G7.lt; omega))
  obtain ⟨ta, tc, ev⟩ := ft.o.isSlice
  rw [hml] at ev
  subst ev
  clear cT b8 G7 X7 L7 B7 o7 e0 e1 e2 hsame hmr hmd ft hm hcap
  obtain ⟨y, hy⟩ : ∃ y, w8.heap.size = y := ⟨_, rfl⟩
  have Y9 := RBx.made w8 q (.slice ta l.length tc) 26
  have bb : Below w8.heap.size w8 (w8.alloc (.cells #[.int .i64 q, .slice ta l.length tc] 26)) := (Below.refl _ _).alloc (Nat.le_refl _) _
  have G9 := G8.below bb G8.lt
  have X9 := X8.below bb X8.lt
  have L9 := L8.below bb
  have M9 := M8.below bb
  have B9 := B8.trans (bb.mono (by have := G8.lt; omega))
  rw [hy] at Y9
  go_upto_region 7 with (fail)
  clear hy G8 X8 L8 M8 B8 bb
  generalize w8.alloc (.cells #[.int .i64 q, .slice ta l.length tc] 26) = w9 at *
  have e0 := G9.c0
  have e1 := G9.c1
  have e2 := G9.c2
  have e3 := X9.c0
  have e4 := X9.c1
  have e5 := Y9.c0
  have e6 := Y9.c1
  have hml' := Lib.hid hml
  clear hml
  have hwr' := hwr.out
  go_wp2_with (fail)
  refine (rsame11_any q q (.slice ta l.length tc) (.slice va l.length vc) m l w9 (by rw [← hml'.out]; rw [← hml'.out] at M9; exact M9) L9 (by rw [hml'.out]; omega)).mono ?_
  rintro e w10 ⟨rfl, b10⟩
  rw [ms]
  have G10 := G9.below b10 G9.lt
  have X10 := X9.below b10 X9.lt
  have L10 := L9.below b10
  have B10 := B9.trans (b10.mono (by have := G9.lt; omega))
  clear b10 e0 e1 e2 e3 e4 e5 e6 G9 X9 L9 M9 B9 Y9
  have e0 := G10.c0
  have e1 := G10.c1
  have e2 := G10.c2
  have e3 := X10.c0
  have e4 := X10.c1
  go_wp2_with (fail)
  refine (cR _ L10).mono ?_
  rintro e w11 ⟨rfl, b11⟩
  go_wp2_with (fail)
  go_ret
  exact ⟨rfl, by rw [hp.out]; exact B10.trans (b11.mono (by have := G10.lt; omega))⟩
end Go.Proofs.YtdbjfofnkijmoaaDoor
