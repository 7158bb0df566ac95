/- label: LabelChooses, walked. -/
import Derived.Test.YtaopknddpagjeaaDoorLabArgs2
import Derived.Test.YtaopknddpagjeaaDoorLabAwake
import Derived.Test.YtaopknddpagjeaaDoorLabFit
import Derived.Test.YtaopknddpagjeaaDoorLabCho
import Derived.Test.YtaopknddpagjeaaDoorLabRCho
import Derived.Test.YtaopknddpagjeaaDoorLabRNext
import Derived.Test.YtaopknddpagjeaaDoorClsTail
import Derived.BigQuiet
import Derived.Deep.QuietTactic
namespace Go.Proofs.YtaopknddpagjeaaDoor
open Go.RowKit
set_option linter.unusedVariables false
set_option linter.unusedSimpArgs false
open Lb

theorem ReadsE.to_run {α : Type} {E : Enc α} {P : Program} {S T : TypeId} {i : TypeInfo} (hT : P.underlying S = some (.slice T)) (hi : P.info? T = some i) (hs : i.size = E.k) {w : World} {v : Value} {l : List α} (h : ReadsE E w v l) {a : Option Addr} {c : Nat} (hv : v = .slice a l.length c) (hc : l.length ≤ c) {m : Nat} (hm : m ≤ l.length) :
    (∀ W, (Instr.slice S v none (some (.int .i64 (m : Int))) none).run P W = .ok (.slice a m c) W) ∧ ReadsE E w (.slice a m c) (l.take m) := by
  subst hv
  constructor
  · intro W
    have e2 : m ≤ c := by omega
    cases a <;> simp [Instr.slice, run_underlying hT, Instr.sliceBounds, Instr.sliceBound, asIntOf, sizeOf, typeInfo, hi, hs, e2, Addr.add]
  · rcases h with ⟨_, rfl⟩ | ⟨b, off, cap, e, hb, hx⟩
    · obtain rfl : m = 0 := by simpa using hm
      exact .inl ⟨⟨_, _, rfl⟩, rfl⟩
    · simp only [Value.slice.injEq] at e
      obtain ⟨rfl, _, rfl⟩ := e
      refine .inr ⟨b, off, c, by rw [List.length_take, Nat.min_eq_left hm], hb, fun j u hj => hx j u ?_⟩
      have : E.all l = E.all (l.take m) ++ E.all (l.drop m) := by rw [← E.all_append, List.take_append_drop]
      rw [this, List.getElem?_append_left (List.getElem?_eq_some_iff.1 hj).1]
      exact hj
theorem choL_lens {id : Int} {L : List Fd} {N : Nat} (h : ∀ f ∈ L, f.x.st.length ≤ N ∧ f.x.bo.length ≤ N ∧ f.x.cu.length ≤ N) : (choL id L).st.length ≤ N ∧ (choL id L).bo.length ≤ N ∧ (choL id L).cu.length ≤ N := by
  unfold choL
  split
  · simp [noLbl]
  · split
    · rename_i hb; exact h _ (List.mem_of_getElem? hb)
    · simp [noLbl]
theorem choU_len (id : Int) (L : List Fd) : (choU id L).length ≤ L.length := by
  unfold choU
  split
  · simp
  · rw [uses_len]; exact Nat.le_refl _
theorem nextL_lens {x : Lbl} {us : List Bool} {N : Nat} (h : x.st.length ≤ N ∧ x.bo.length ≤ N ∧ x.cu.length ≤ N) : (nextL x us).st.length ≤ N ∧ (nextL x us).bo.length ≤ N ∧ (nextL x us).cu.length ≤ N := by
  unfold nextL
  split
  · exact ⟨by show (mask us x.st).length ≤ N; rw [mask_len]; exact h.1, h.2.1, by show (mask us x.cu).length ≤ N; rw [mask_len]; exact h.2.2⟩
  · simp [noLbl]
theorem fd_sizes' : ∃ i, Tryd.prog.info? 45 = some i ∧ i.zero = some (.agg #[.bool false, .int .i64 0, .int .i64 0, .int .i64 0, .int .i64 0, .int .i64 0, .int .i64 0, .slice none 0 0, .slice none 0 0, .slice none 0 0]) ∧ i.size = 10 ∧ i.bytes = 128 := by
  exact info_parts (by kernel_rfl)
set_option maxRecDepth 100000 in
set_option maxHeartbeats 4000000 in
theorem lchooses_walk (id : Int) (raw oth : List Fd) (us : List Bool) (x : Lbl) (v1 v2 v3 va vb vc : Value) (w : World) (hr : Came w rawE v1 raw) (ho : Came w fdE v2 oth) (hu : Reads w v3 (us.map .bool)) (hul : us.length ≤ 140737488355328) (hx : LR w x va vb vc) :
    Calls Tryd.prog 5 #[.int .i64 id, v1, v2, v3, x.v va vb vc] w (Tells w (.bool true)) := by
  obtain ⟨ra, rc, rfl, hrc, _⟩ := hr.c
  obtain ⟨oa, oc, rfl, hoc, _⟩ := ho.c
  have A0 : LblBox (w.alloc (.cells #[.int .i64 x.i, .int .i64 x.s, .int .i64 x.g, .int .i64 x.k, .int .i64 x.m, .int .i64 x.b, va, vb, vc] 26)) w.heap.size x va vb vc := ⟨LblAt.made w x va vb vc 26, fun o => frozen_of_row _ _ _ _ _ (heap_alloc_new _ _)⟩
  have B0 : Below w.heap.size w (w.alloc (.cells #[.int .i64 x.i, .int .i64 x.s, .int .i64 x.g, .int .i64 x.k, .int .i64 x.m, .int .i64 x.b, va, vb, vc] 26)) := (Below.refl _ _).alloc (Nat.le_refl _) _
  have hrn := hr.n
  have hon := ho.n
  unfold Lbl.v
  go_enter Tryd.func5, Tryd.ntmps5
  go_upto_region 1 with (fail)
  generalize w.alloc (.cells #[.int .i64 x.i, .int .i64 x.s, .int .i64 x.g, .int .i64 x.k, .int .i64 x.m, .int .i64 x.b, va, vb, vc] 26) = w0 at *
  obtain ⟨p, hp⟩ : ∃ p, w.heap.size = p := ⟨_, rfl⟩
  rw [hp] at A0 ⊢
  replace hp := Lib.hid hp
  go_wp2_with (fail)
  refine (awake10_any w0).mono ?_
  rintro e w1 ⟨rfl, b1⟩
  have A1 := A0.below b1 A0.a.lt
  have B1 := B0.trans (b1.mono B0.size)
  clear A0 B0 b1
  have hR1 := (hr.r.below B1).items
  obtain ⟨ra', rc', ev, hR1⟩ := hR1
  have hee : ra = ra' ∧ rc = rc' := by simpa using ev
  obtain ⟨rfl, rfl⟩ := hee
  clear ev
  have hRl : Hid (∀ i (hi : i < raw.length), LR w1 raw[i].x raw[i].va raw[i].vb raw[i].vc ∧ NumsOk raw[i].x) := Lib.hid fun i hi => ⟨(hr.lr _ (List.getElem_mem hi)).1.below B1, (hr.lr _ (List.getElem_mem hi)).2⟩
  replace hR1 := Lib.hid hR1
  have hO1 := Lib.hid (ho.r.below B1)
  have hOl : Hid (∀ f ∈ oth, LR w1 f.x f.va f.vb f.vc) := Lib.hid fun f hf => (ho.lr f hf).1.below B1
  have hU1 := hu.below B1
  have hX1 := hx.below B1
  clear hr ho hu hx
  obtain ⟨ua, uc, rfl⟩ := hU1.isSlice
  rw [List.length_map] at hU1 ⊢
  go_wp2_with (fail)
  go_loopw [12, 13] (fun o i W => ∃ (k : Nat) (l : List Fd), k ≤ 10 ∧ k ≤ raw.length ∧ i = .int .i64 (k : Int) ∧ Fam W w1.heap.size o l ∧ l.length = k ∧ (∀ f ∈ l, f.x.st.length ≤ 140737488355328 ∧ f.x.bo.length ≤ 140737488355328 ∧ f.x.cu.length ≤ 140737488355328) ∧ Below w1.heap.size w1 W) (fun _ i _ => raw.length - (intOf i).toNat)
  case atStart => exact ⟨0, [], Nat.zero_le _, Nat.zero_le _, rfl, Fam.nil _ _, rfl, (fun _ h => by cases h), Below.refl _ _⟩
  case round =>
    obtain ⟨k, l, hk, hkr, rfl, hO, hll, hL, hB⟩ := hrel
    rename World => W
    have hsz := hB.size
    by_cases h1 : k < raw.length
    · have y1 : (k : Int) < (raw.length : Int) := by omega
      by_cases h2 : k < 10
      · have y2 : (k : Int) < 10 := by omega
        obtain ⟨cb, co, rfl, hcb, hcc⟩ := hR1.out k h1
        have hcW : ∀ j, j < 9 → W.cell? ⟨cb, co + k * 9 + j, none⟩ = (rawE.f raw[k])[j]? := fun j hj => by
          have := hcc j hj
          rw [← Nat.add_assoc] at this
          rw [hB.cell (p := ⟨cb, co + k * 9 + j, none⟩) hcb]; exact this
        obtain ⟨hLk, hNk⟩ := hRl.out k h1
        generalize raw[k] = f at *
        obtain ⟨fh, r, ca, cb', cc⟩ := f
        have f0 : W.cell? ⟨cb, co + k * 9, none⟩ = some (.int .i64 r.i) := hcW 0 (by decide)
        have f1 : W.cell? ⟨cb, co + k * 9 + 1, none⟩ = some (.int .i64 r.s) := hcW 1 (by decide)
        have f2 : W.cell? ⟨cb, co + k * 9 + 2, none⟩ = some (.int .i64 r.g) := hcW 2 (by decide)
        have f3 : W.cell? ⟨cb, co + k * 9 + 3, none⟩ = some (.int .i64 r.k) := hcW 3 (by decide)
        have f4 : W.cell? ⟨cb, co + k * 9 + 4, none⟩ = some (.int .i64 r.m) := hcW 4 (by decide)
        have f5 : W.cell? ⟨cb, co + k * 9 + 5, none⟩ = some (.int .i64 r.b) := hcW 5 (by decide)
        have f6 : W.cell? ⟨cb, co + k * 9 + 6, none⟩ = some ca := (hcW 6 (by decide)).trans (congrArg some (cell1_of hLk.s))
        have f7 : W.cell? ⟨cb, co + k * 9 + 7, none⟩ = some cb' := (hcW 7 (by decide)).trans (congrArg some (cell1_of hLk.b))
        have f8 : W.cell? ⟨cb, co + k * 9 + 8, none⟩ = some cc := (hcW 8 (by decide)).trans (congrArg some (cell1_of hLk.c))
        simp only at hLk hNk
        have cF := fit10_any r ca cb' cc W (hLk.below hB) hNk.i hNk.s hNk.g hNk.k hNk.m hNk.b hNk.st hNk.bo hNk.cu
        unfold Lbl.v at cF
        clear hcW hcc
        have hcbW : cb < W.heap.size := by omega
        go_wp2_with (fail)
        refine cF.mono ?_
        rintro e w2 ⟨ya, yb, yc, rfl, O2, b2⟩
        have g0 : w2.cell? ⟨cb, co + k * 9, none⟩ = some (.int .i64 r.i) := (b2.cell (p := ⟨cb, co + k * 9, none⟩) hcbW).trans f0
        have hcb2 : cb < w2.heap.size := Nat.lt_of_lt_of_le hcbW b2.size
        clear f0 f1 f2 f3 f4 f5 f6 f7 f8 cF hcbW
        have hN1 : (fitL r).st.length = fN r := (fitTo_len r (fN r)).1
        have hN2 : (fitL r).bo.length = fN r := (fitTo_len r (fN r)).2.1
        have hN3 : (fitL r).cu.length = fN r := (fitTo_len r (fN r)).2.2
        have hfn := (fN_rng r).2
        generalize fitL r = y at *
        obtain ⟨a1, d1, rfl⟩ := O2.a.isSlice
        obtain ⟨a2, d2, rfl⟩ := O2.b.isSlice
        obtain ⟨a3, d3, rfl⟩ := O2.c.isSlice
        rw [List.length_map, List.length_map, List.length_map] at *
        obtain ⟨n1, hn1⟩ : ∃ n, y.st.length = n := ⟨_, rfl⟩
        obtain ⟨n2, hn2⟩ : ∃ n, y.bo.length = n := ⟨_, rfl⟩
        obtain ⟨n3, hn3⟩ : ∃ n, y.cu.length = n := ⟨_, rfl⟩
        simp only [hn1, hn2, hn3] at O2 ⊢
        have bk : Below w2.heap.size w2 (w2.alloc (.cells #[.int .i64 y.i, .int .i64 y.s, .int .i64 y.g, .int .i64 y.k, .int .i64 y.m, .int .i64 y.b, .slice a1 n1 d1, .slice a2 n2 d2, .slice a3 n3 d3] 26)) := (Below.refl _ _).alloc (Nat.le_refl _) _
        have Xq : LblBox (w2.alloc (.cells #[.int .i64 y.i, .int .i64 y.s, .int .i64 y.g, .int .i64 y.k, .int .i64 y.m, .int .i64 y.b, .slice a1 n1 d1, .slice a2 n2 d2, .slice a3 n3 d3] 26)) w2.heap.size y (.slice a1 n1 d1) (.slice a2 n2 d2) (.slice a3 n3 d3) := ⟨LblAt.made w2 y (.slice a1 n1 d1) (.slice a2 n2 d2) (.slice a3 n3 d3) 26, fun o => frozen_of_row _ _ _ _ _ (heap_alloc_new _ _)⟩
        simp only [Lbl.v]
        go_upto_region 7 with (fail)
        have O3' := O2.after bk
        have B3 : Below W.heap.size W _ := b2.trans (bk.mono b2.size)
        have g3 := (bk.cell (p := ⟨cb, co + k * 9, none⟩) hcb2).trans g0
        have hcb3 := Nat.lt_of_lt_of_le hcb2 bk.size
        clear O2 bk b2 g0 hcb2
        generalize w2.alloc (.cells #[.int .i64 y.i, .int .i64 y.s, .int .i64 y.g, .int .i64 y.k, .int .i64 y.m, .int .i64 y.b, .slice a1 n1 d1, .slice a2 n2 d2, .slice a3 n3 d3] 26) = w3 at *
        obtain ⟨q, hq⟩ : ∃ q, w2.heap.size = q := ⟨_, rfl⟩
        rw [hq] at Xq ⊢
        clear hq
        have ⟨e0, e1, e2, e3, e4, e5, e6, e7, e8, elt⟩ := Xq.a
        have cP := fun W => pick10_any r.i 7 W hNk.i.1 hNk.i.2 (by omega) (by omega)
        have cP' : ∀ W, Calls Tryd.prog 20 #[.int .i64 r.i, .int .i64 7] W fun e w' => e = .returned (.int .i64 (pk r.i 7)) ∧ Below W.heap.size W w' := fun W => (cP W).mono fun e w' h => ⟨h.1, h.2 ▸ Below.refl _ _⟩
        clear cP hNk hLk
        generalize pk r.i 7 = z at *
        have hln : y.st.length ≤ 140737488355328 ∧ y.bo.length ≤ 140737488355328 ∧ y.cu.length ≤ 140737488355328 := by omega
        clear hN1 hN2 hN3 hfn
        refine wp_region_cls_tail1 (o0 := ⟨some 41, _, _, _, _, _⟩) (Below w3.heap.size w3) 9 (v0 := u12) (by kernel_rfl) rfl rfl (by kernel_rfl) (by kernel_rfl) (by kernel_rfl) (fun _ _ _ h => h) (Or.inl ⟨by rfl, fun w => by go_simp⟩) (Below.refl _ _).drew ?_
        intro Z f hne hD hE
        have r0 : ∀ z, (f z).cell? ⟨cb, co + k * 9, none⟩ = some (.int .i64 r.i) := fun z => (clsCell hD z _ _ hcb3).trans g3
        have t0 : ∀ z, (f z).cell? ⟨q, 0, none⟩ = some (.int .i64 y.i) := fun z => (clsCell hD z _ _ elt).trans e0
        have t1 : ∀ z, (f z).cell? ⟨q, 1, none⟩ = some (.int .i64 y.s) := fun z => (clsCell hD z _ _ elt).trans e1
        have t2 : ∀ z, (f z).cell? ⟨q, 2, none⟩ = some (.int .i64 y.g) := fun z => (clsCell hD z _ _ elt).trans e2
        have t3 : ∀ z, (f z).cell? ⟨q, 3, none⟩ = some (.int .i64 y.k) := fun z => (clsCell hD z _ _ elt).trans e3
        have t4 : ∀ z, (f z).cell? ⟨q, 4, none⟩ = some (.int .i64 y.m) := fun z => (clsCell hD z _ _ elt).trans e4
        have t5 : ∀ z, (f z).cell? ⟨q, 5, none⟩ = some (.int .i64 y.b) := fun z => (clsCell hD z _ _ elt).trans e5
        have t6 : ∀ z, (f z).cell? ⟨q, 6, none⟩ = some (.slice a1 n1 d1) := fun z => (clsCell hD z _ _ elt).trans e6
        have t7 : ∀ z, (f z).cell? ⟨q, 7, none⟩ = some (.slice a2 n2 d2) := fun z => (clsCell hD z _ _ elt).trans e7
        have t8 : ∀ z, (f z).cell? ⟨q, 8, none⟩ = some (.slice a3 n3 d3) := fun z => (clsCell hD z _ _ elt).trans e8
        clear g3 e0 e1 e2 e3 e4 e5 e6 e7 e8
        simp only [List.take_succ_cons, List.take_zero, List.drop_succ_cons, List.drop_zero, Act.put, List.setIfInBounds_toArray, List.set_cons_succ, List.set_cons_zero]
        iterate 8 (go_big_quiet_step (first | (go_at_call 20; with_reducible exact toQB hD hE _ (cP' _))))
        refine wpQuiet_nil ?_
        intro _ hw'
        obtain ⟨zq, hw''⟩ := hw'
        subst hw''
        have Bz := B3.trans ((hD zq).mono B3.size)
        have Oz := hO.o.after Bz
        have Lz := O3'.after (hD zq)
        obtain ⟨fi, fh', fz0, fz1, fzb⟩ := fd_sizes'
        obtain ⟨v', w6, hap, o6, b6, hk6, hv6⟩ := OwnE.push (P := Tryd.prog) (S := 42) Tryd.underlying42 fh' fz0 fz1 fzb rfl Oz (⟨!(z == 5), y, .slice a1 n1 d1, .slice a2 n2 d2, .slice a3 n3 d3⟩ : Fd) #[.bool (!(z == 5)), .int .i64 y.i, .int .i64 y.s, .int .i64 y.g, .int .i64 y.k, .int .i64 y.m, .int .i64 y.b, .slice a1 n1 d1, .slice a2 n2 d2, .slice a3 n3 d3] (by simp only [fdE, cell1_slice]) (by have := Bz.size; omega) (by omega) (by omega)
        have hnew : Fam w6 w1.heap.size v' (l ++ [⟨!(z == 5), y, .slice a1 n1 d1, .slice a2 n2 d2, .slice a3 n3 d3⟩]) := hO.push (C := W.heap.size) (Nat.le_refl _) Lz Bz o6 hk6 hv6 hsz
        have Bn := (hB.trans (Bz.mono hsz)).trans b6
        have Ln : Hid (∀ f' ∈ l ++ [(⟨!(z == 5), y, .slice a1 n1 d1, .slice a2 n2 d2, .slice a3 n3 d3⟩ : Fd)], f'.x.st.length ≤ 140737488355328 ∧ f'.x.bo.length ≤ 140737488355328 ∧ f'.x.cu.length ≤ 140737488355328) := Lib.hid fun f' hf => by
          rcases List.mem_append.1 hf with h | h
          · exact hL f' h
          · obtain rfl : f' = _ := by simpa using h
            exact hln
        clear hE r0 t0 t1 t2 t3 t4 t5 t6 t7 t8 Lz Oz o6 hk6 hv6
        go_wp2_with (at_builtin; refine wpList_append_run hap _ _ rfl rfl rfl rfl rfl ?_)
        go_roundw
        case rel => exact ⟨k + 1, _, by omega, by omega, by go_num, hnew, by rw [List.length_append, hll]; rfl, Ln.out, Bn⟩
        case measure => simp [intOf]; omega
      · have y2 : ¬ ((k : Int) < 10) := by omega
        have y1 : (k : Int) < (raw.length : Int) := by omega
        have em : min (oth.length : Int) 10 = ((min oth.length 10 : Nat) : Int) := by omega
        obtain ⟨fi, fh', fz0, fz1, fzb⟩ := fd_sizes'
        obtain ⟨hrun, hrd⟩ := hO1.out.to_run (P := Tryd.prog) Tryd.underlying42 fh' (by rw [fz1]; rfl) rfl hoc (m := min oth.length 10) (by omega)
        rw [← em] at hrun
        have hmt : (oth.take (min oth.length 10)).length ≤ 10 := by rw [List.length_take]; omega
        obtain ⟨v7, w7, hap, o7, b7, hk7, _⟩ := OwnE.pushAll (P := Tryd.prog) (S := 42) Tryd.underlying42 fh' fz0 fz1 fzb rfl hO.o (hrd.below hB) hsz (by omega) (by omega)
        have B7 := hB.trans b7
        have hLr : ∀ f ∈ l ++ oth.take (min oth.length 10), LR w7 f.x f.va f.vb f.vc := fun f hf => by
          rcases List.mem_append.1 hf with h | h
          · have hq : ∀ u, u ∈ vals3 f → Apart u u12 := fun u hu => hO.q u (List.mem_flatMap.2 ⟨f, h, hu⟩)
            obtain ⟨h1, h2, h3⟩ := hL f h
            exact ⟨((hO.s f h).kept hk7 (hq _ (by simp [vals3]))).reads, ((hO.b f h).kept hk7 (hq _ (by simp [vals3]))).reads, ((hO.c f h).kept hk7 (hq _ (by simp [vals3]))).reads, h1, h2, h3⟩
          · exact (hOl.out f (List.mem_of_mem_take h)).below B7
        have FR := FReads.of o7.reads hLr
        have hLl : (l ++ oth.take (min oth.length 10)).length ≤ 20 := by rw [List.length_append]; omega
        generalize l ++ oth.take (min oth.length 10) = L at *
        have lq := choL_lens (id := id) (N := 140737488355328) (fun f hf => ⟨(hLr f hf).ls, (hLr f hf).lb, (hLr f hf).lc⟩)
        have lu := choU_len id L
        have c1 := choose_any id v7 L w7 FR (by omega)
        have c2 := fun W (hb : Below w7.heap.size w7 W) => rchoose_any id v7 L W (FR.below hb) (by omega)
        replace c2 := Lib.hid c2
        generalize choL id L = q at *
        generalize choU id L = uu at *
        generalize choE id L = ee at *
        have A7 := A1.below B7 A1.a.lt
        have U7 := hU1.below B7
        have X7 := hX1.below B7
        have lx : (nextL x us).st.length ≤ 140737488355328 ∧ (nextL x us).bo.length ≤ 140737488355328 ∧ (nextL x us).cu.length ≤ 140737488355328 := nextL_lens ⟨X7.ls, X7.lb, X7.lc⟩
        have c3 := fun W (hb : Below w7.heap.size w7 W) => next_any x us va vb vc (.slice ua us.length uc) W (X7.below hb) (U7.below hb) hul
        have c4 := fun W (hb : Below w7.heap.size w7 W) => rnext_any x us va vb vc (.slice ua us.length uc) W (X7.below hb) (U7.below hb) hul
        replace c3 := Lib.hid c3
        replace c4 := Lib.hid c4
        generalize nextL x us = nx at *
        generalize nextE x us = ne at *
        have Bw : Below w.heap.size w w7 := B1.trans (B7.mono B1.size)
        clear hO hB hL hLr FR hX1 hU1 hO1 hOl hR1 hRl A1 B7 hrd hk7 o7 b7 B1
        go_upto_region 8 with (fail)
        go_upto_region 9 with (at_builtin; refine wpList_append_run2 hap _ _ rfl rfl rfl rfl rfl ?_)
        clear hrun hap
        go_wp2_with (fail)
        refine c1.mono ?_
        rintro e w8 ⟨ga, gb, gc, gu, rfl, O8, U8, b8⟩
        clear c1
        obtain ⟨a81, d81, ev⟩ := O8.a.isSlice
        rw [List.length_map] at ev
        subst ev
        obtain ⟨a82, d82, ev⟩ := O8.b.isSlice
        rw [List.length_map] at ev
        subst ev
        obtain ⟨a83, d83, ev⟩ := O8.c.isSlice
        rw [List.length_map] at ev
        subst ev
        have P8 := O8.lr lq.1 lq.2.1 lq.2.2
        clear O8
        have bk8 : Below w8.heap.size w8 (w8.alloc (.cells #[.int .i64 q.i, .int .i64 q.s, .int .i64 q.g, .int .i64 q.k, .int .i64 q.m, .int .i64 q.b, .slice a81 q.st.length d81, .slice a82 q.bo.length d82, .slice a83 q.cu.length d83] 26)) := (Below.refl _ _).alloc (Nat.le_refl _) _
        have Q8 : LblBox (w8.alloc (.cells #[.int .i64 q.i, .int .i64 q.s, .int .i64 q.g, .int .i64 q.k, .int .i64 q.m, .int .i64 q.b, .slice a81 q.st.length d81, .slice a82 q.bo.length d82, .slice a83 q.cu.length d83] 26)) w8.heap.size q (.slice a81 q.st.length d81) (.slice a82 q.bo.length d82) (.slice a83 q.cu.length d83) := ⟨LblAt.made w8 q (.slice a81 q.st.length d81) (.slice a82 q.bo.length d82) (.slice a83 q.cu.length d83) 26, fun o => frozen_of_row _ _ _ _ _ (heap_alloc_new _ _)⟩
        replace P8 := P8.below bk8
        simp only [Lbl.v]
        go_upto_region 10 with (fail)
        have U9 := U8.after bk8
        have B9 := b8.trans (bk8.mono b8.size)
        clear U8 b8 bk8
        go_wp2_with (fail)
        refine (c2.out _ B9).mono ?_
        rintro e w10 ⟨ga, gb, gc, gv, rfl, O10, V10, b10⟩
        clear c2
        obtain ⟨a101, d101, ev⟩ := O10.a.isSlice
        rw [List.length_map] at ev
        subst ev
        obtain ⟨a102, d102, ev⟩ := O10.b.isSlice
        rw [List.length_map] at ev
        subst ev
        obtain ⟨a103, d103, ev⟩ := O10.c.isSlice
        rw [List.length_map] at ev
        subst ev
        have P10 := O10.lr lq.1 lq.2.1 lq.2.2
        clear O10
        have bk10 : Below w10.heap.size w10 (w10.alloc (.cells #[.int .i64 q.i, .int .i64 q.s, .int .i64 q.g, .int .i64 q.k, .int .i64 q.m, .int .i64 q.b, .slice a101 q.st.length d101, .slice a102 q.bo.length d102, .slice a103 q.cu.length d103] 26)) := (Below.refl _ _).alloc (Nat.le_refl _) _
        have Q10 : LblBox (w10.alloc (.cells #[.int .i64 q.i, .int .i64 q.s, .int .i64 q.g, .int .i64 q.k, .int .i64 q.m, .int .i64 q.b, .slice a101 q.st.length d101, .slice a102 q.bo.length d102, .slice a103 q.cu.length d103] 26)) w10.heap.size q (.slice a101 q.st.length d101) (.slice a102 q.bo.length d102) (.slice a103 q.cu.length d103) := ⟨LblAt.made w10 q (.slice a101 q.st.length d101) (.slice a102 q.bo.length d102) (.slice a103 q.cu.length d103) 26, fun o => frozen_of_row _ _ _ _ _ (heap_alloc_new _ _)⟩
        replace P10 := P10.below bk10
        simp only [Lbl.v]
        go_upto_region 11 with (fail)
        have V11 := V10.after bk10
        have U11 := U9.after (b10.trans (bk10.mono b10.size))
        have Q11 := Q8.below (b10.trans (bk10.mono b10.size)) Q8.a.lt
        have P11 := P8.below (b10.trans (bk10.mono b10.size))
        have B11 := B9.trans ((b10.trans (bk10.mono b10.size)).mono B9.size)
        clear V10 b10 bk10 U9 Q8 P8 B9
        have c3' := c3.out _ B11
        unfold Lbl.v at c3'
        have A11 := A7.below B11 A7.a.lt
        have ⟨e0, e1, e2, e3, e4, e5, e6, e7, e8, elt⟩ := A11.a
        go_wp2_with (fail)
        refine c3'.mono ?_
        rintro e w12 ⟨ga, gb, gc, rfl, O12, b12⟩
        clear c3 c3' e0 e1 e2 e3 e4 e5 e6 e7 e8 elt
        obtain ⟨a121, d121, ev⟩ := O12.a.isSlice
        rw [List.length_map] at ev
        subst ev
        obtain ⟨a122, d122, ev⟩ := O12.b.isSlice
        rw [List.length_map] at ev
        subst ev
        obtain ⟨a123, d123, ev⟩ := O12.c.isSlice
        rw [List.length_map] at ev
        subst ev
        have P12 := O12.lr lx.1 lx.2.1 lx.2.2
        clear O12
        have bk12 : Below w12.heap.size w12 (w12.alloc (.cells #[.int .i64 nx.i, .int .i64 nx.s, .int .i64 nx.g, .int .i64 nx.k, .int .i64 nx.m, .int .i64 nx.b, .slice a121 nx.st.length d121, .slice a122 nx.bo.length d122, .slice a123 nx.cu.length d123] 26)) := (Below.refl _ _).alloc (Nat.le_refl _) _
        have Q12 : LblBox (w12.alloc (.cells #[.int .i64 nx.i, .int .i64 nx.s, .int .i64 nx.g, .int .i64 nx.k, .int .i64 nx.m, .int .i64 nx.b, .slice a121 nx.st.length d121, .slice a122 nx.bo.length d122, .slice a123 nx.cu.length d123] 26)) w12.heap.size nx (.slice a121 nx.st.length d121) (.slice a122 nx.bo.length d122) (.slice a123 nx.cu.length d123) := ⟨LblAt.made w12 nx (.slice a121 nx.st.length d121) (.slice a122 nx.bo.length d122) (.slice a123 nx.cu.length d123) 26, fun o => frozen_of_row _ _ _ _ _ (heap_alloc_new _ _)⟩
        replace P12 := P12.below bk12
        simp only [Lbl.v]
        go_upto_region 12 with (fail)
        have bb := b12.trans (bk12.mono b12.size)
        have V13 := V11.after bb
        have U13 := U11.after bb
        have Q13 := Q11.below bb Q11.a.lt
        have P13 := P11.below bb
        have R13 := Q10.below bb Q10.a.lt
        have S13 := P10.below bb
        have B13 := B11.trans (bb.mono B11.size)
        have A13 := A11.below bb A11.a.lt
        clear V11 b12 bk12 U11 Q11 P11 Q10 P10 B11 bb A11
        have c4' := c4.out _ B13
        unfold Lbl.v at c4'
        have ⟨e0, e1, e2, e3, e4, e5, e6, e7, e8, elt⟩ := A13.a
        go_wp2_with (fail)
        refine c4'.mono ?_
        rintro e w14 ⟨ga, gb, gc, rfl, O14, b14⟩
        clear c4 c4' e0 e1 e2 e3 e4 e5 e6 e7 e8 elt A13
        obtain ⟨a141, d141, ev⟩ := O14.a.isSlice
        rw [List.length_map] at ev
        subst ev
        obtain ⟨a142, d142, ev⟩ := O14.b.isSlice
        rw [List.length_map] at ev
        subst ev
        obtain ⟨a143, d143, ev⟩ := O14.c.isSlice
        rw [List.length_map] at ev
        subst ev
        have P14 := O14.lr lx.1 lx.2.1 lx.2.2
        clear O14
        have bk14 : Below w14.heap.size w14 (w14.alloc (.cells #[.int .i64 nx.i, .int .i64 nx.s, .int .i64 nx.g, .int .i64 nx.k, .int .i64 nx.m, .int .i64 nx.b, .slice a141 nx.st.length d141, .slice a142 nx.bo.length d142, .slice a143 nx.cu.length d143] 26)) := (Below.refl _ _).alloc (Nat.le_refl _) _
        have Q14 : LblBox (w14.alloc (.cells #[.int .i64 nx.i, .int .i64 nx.s, .int .i64 nx.g, .int .i64 nx.k, .int .i64 nx.m, .int .i64 nx.b, .slice a141 nx.st.length d141, .slice a142 nx.bo.length d142, .slice a143 nx.cu.length d143] 26)) w14.heap.size nx (.slice a141 nx.st.length d141) (.slice a142 nx.bo.length d142) (.slice a143 nx.cu.length d143) := ⟨LblAt.made w14 nx (.slice a141 nx.st.length d141) (.slice a142 nx.bo.length d142) (.slice a143 nx.cu.length d143) 26, fun o => frozen_of_row _ _ _ _ _ (heap_alloc_new _ _)⟩
        replace P14 := P14.below bk14
        simp only [Lbl.v]
        go_upto_region 13 with (fail)
        have bb := b14.trans (bk14.mono b14.size)
        have V15 := (V13.after bb).reads
        have U15 := (U13.after bb).reads
        have Q15 := Q13.below bb Q13.a.lt
        have P15 := P13.below bb
        have R15 := R13.below bb R13.a.lt
        have S15 := S13.below bb
        have T15 := Q12.below bb Q12.a.lt
        have M15 := P12.below bb
        have B15 := B13.trans (bb.mono B13.size)
        clear V13 b14 bk14 U13 Q13 P13 R13 S13 Q12 P12 B13 bb
        have Bf := Bw.trans (B15.mono Bw.size)
        have c5 := fun W h1 h2 => rsame_any q q (.slice a81 q.st.length d81) (.slice a82 q.bo.length d82) (.slice a83 q.cu.length d83) (.slice a101 q.st.length d101) (.slice a102 q.bo.length d102) (.slice a103 q.cu.length d103) W h1 h2
        have c6 := fun W h1 h2 => rsame_any nx nx (.slice a121 nx.st.length d121) (.slice a122 nx.bo.length d122) (.slice a123 nx.cu.length d123) (.slice a141 nx.st.length d141) (.slice a142 nx.bo.length d142) (.slice a143 nx.cu.length d143) W h1 h2
        have c7 := fun W h1 h2 => bools_any gu gv uu uu W h1 h2 (by omega)
        rw [decide_eq_true rfl] at c7
        simp only [decide_true] at c5 c6
        unfold Lbl.v at c5 c6
        have ye : (ee == ee) = true := beq_self_eq_true ee
        have yn : (ne == ne) = true := beq_self_eq_true ne
        have ⟨e0, e1, e2, e3, e4, e5, e6, e7, e8, elt⟩ := Q15.a
        have ⟨f0, f1, f2, f3, f4, f5, f6, f7, f8, flt⟩ := R15.a
        go_wp2_with (fail)
        refine (c5 _ P15 S15).mono ?_
        rintro e w16 ⟨rfl, b16⟩
        clear c5 e0 e1 e2 e3 e4 e5 e6 e7 e8 elt f0 f1 f2 f3 f4 f5 f6 f7 f8 flt P15 S15 Q15 R15
        have T16 := T15.below b16 T15.a.lt
        have N16 := Q14.below b16 Q14.a.lt
        have Bg := Bf.trans (b16.mono Bf.size)
        go_wp2_with (fail)
        refine (c7 _ (U15.below b16) (V15.below b16)).mono ?_
        rintro e w17 ⟨rfl, b17⟩
        clear c7 T15 Q14 Bf
        have T17 := T16.below b17 T16.a.lt
        have N17 := N16.below b17 N16.a.lt
        have Bh := Bg.trans (b17.mono Bg.size)
        have ⟨e0, e1, e2, e3, e4, e5, e6, e7, e8, elt⟩ := T17.a
        have ⟨f0, f1, f2, f3, f4, f5, f6, f7, f8, flt⟩ := N17.a
        go_wp2_with (fail)
        refine (c6 _ ((M15.below b16).below b17) ((P14.below b16).below b17)).mono ?_
        rintro e w18 ⟨rfl, b18⟩
        clear c6 e0 e1 e2 e3 e4 e5 e6 e7 e8 elt f0 f1 f2 f3 f4 f5 f6 f7 f8 flt T17 N17 T16 N16
        have Bi := Bh.trans (b18.mono Bh.size)
        go_wp2_with (fail)
        go_ret
        exact ⟨rfl, Bi⟩
    · have y1 : ¬ ((k : Int) < (raw.length : Int)) := by omega
      have em : min (oth.length : Int) 10 = ((min oth.length 10 : Nat) : Int) := by omega
      obtain ⟨fi, fh', fz0, fz1, fzb⟩ := fd_sizes'
      obtain ⟨hrun, hrd⟩ := hO1.out.to_run (P := Tryd.prog) Tryd.underlying42 fh' (by rw [fz1]; rfl) rfl hoc (m := min oth.length 10) (by omega)
      rw [← em] at hrun
      have hmt : (oth.take (min oth.length 10)).length ≤ 10 := by rw [List.length_take]; omega
      obtain ⟨v7, w7, hap, o7, b7, hk7, _⟩ := OwnE.pushAll (P := Tryd.prog) (S := 42) Tryd.underlying42 fh' fz0 fz1 fzb rfl hO.o (hrd.below hB) hsz (by omega) (by omega)
      have B7 := hB.trans b7
      have hLr : ∀ f ∈ l ++ oth.take (min oth.length 10), LR w7 f.x f.va f.vb f.vc := fun f hf => by
        rcases List.mem_append.1 hf with h | h
        · have hq : ∀ u, u ∈ vals3 f → Apart u u12 := fun u hu => hO.q u (List.mem_flatMap.2 ⟨f, h, hu⟩)
          obtain ⟨h1, h2, h3⟩ := hL f h
          exact ⟨((hO.s f h).kept hk7 (hq _ (by simp [vals3]))).reads, ((hO.b f h).kept hk7 (hq _ (by simp [vals3]))).reads, ((hO.c f h).kept hk7 (hq _ (by simp [vals3]))).reads, h1, h2, h3⟩
        · exact (hOl.out f (List.mem_of_mem_take h)).below B7
      have FR := FReads.of o7.reads hLr
      have hLl : (l ++ oth.take (min oth.length 10)).length ≤ 20 := by rw [List.length_append]; omega
      generalize l ++ oth.take (min oth.length 10) = L at *
      have lq := choL_lens (id := id) (N := 140737488355328) (fun f hf => ⟨(hLr f hf).ls, (hLr f hf).lb, (hLr f hf).lc⟩)
      have lu := choU_len id L
      have c1 := choose_any id v7 L w7 FR (by omega)
      have c2 := fun W (hb : Below w7.heap.size w7 W) => rchoose_any id v7 L W (FR.below hb) (by omega)
      replace c2 := Lib.hid c2
      generalize choL id L = q at *
      generalize choU id L = uu at *
      generalize choE id L = ee at *
      have A7 := A1.below B7 A1.a.lt
      have U7 := hU1.below B7
      have X7 := hX1.below B7
      have lx : (nextL x us).st.length ≤ 140737488355328 ∧ (nextL x us).bo.length ≤ 140737488355328 ∧ (nextL x us).cu.length ≤ 140737488355328 := nextL_lens ⟨X7.ls, X7.lb, X7.lc⟩
      have c3 := fun W (hb : Below w7.heap.size w7 W) => next_any x us va vb vc (.slice ua us.length uc) W (X7.below hb) (U7.below hb) hul
      have c4 := fun W (hb : Below w7.heap.size w7 W) => rnext_any x us va vb vc (.slice ua us.length uc) W (X7.below hb) (U7.below hb) hul
      replace c3 := Lib.hid c3
      replace c4 := Lib.hid c4
      generalize nextL x us = nx at *
      generalize nextE x us = ne at *
      have Bw : Below w.heap.size w w7 := B1.trans (B7.mono B1.size)
      clear hO hB hL hLr FR hX1 hU1 hO1 hOl hR1 hRl A1 B7 hrd hk7 o7 b7 B1
      go_upto_region 8 with (fail)
      go_upto_region 9 with (at_builtin; refine wpList_append_run2 hap _ _ rfl rfl rfl rfl rfl ?_)
      clear hrun hap
      go_wp2_with (fail)
      refine c1.mono ?_
      rintro e w8 ⟨ga, gb, gc, gu, rfl, O8, U8, b8⟩
      clear c1
      obtain ⟨a81, d81, ev⟩ := O8.a.isSlice
      rw [List.length_map] at ev
      subst ev
      obtain ⟨a82, d82, ev⟩ := O8.b.isSlice
      rw [List.length_map] at ev
      subst ev
      obtain ⟨a83, d83, ev⟩ := O8.c.isSlice
      rw [List.length_map] at ev
      subst ev
      have P8 := O8.lr lq.1 lq.2.1 lq.2.2
      clear O8
      have bk8 : Below w8.heap.size w8 (w8.alloc (.cells #[.int .i64 q.i, .int .i64 q.s, .int .i64 q.g, .int .i64 q.k, .int .i64 q.m, .int .i64 q.b, .slice a81 q.st.length d81, .slice a82 q.bo.length d82, .slice a83 q.cu.length d83] 26)) := (Below.refl _ _).alloc (Nat.le_refl _) _
      have Q8 : LblBox (w8.alloc (.cells #[.int .i64 q.i, .int .i64 q.s, .int .i64 q.g, .int .i64 q.k, .int .i64 q.m, .int .i64 q.b, .slice a81 q.st.length d81, .slice a82 q.bo.length d82, .slice a83 q.cu.length d83] 26)) w8.heap.size q (.slice a81 q.st.length d81) (.slice a82 q.bo.length d82) (.slice a83 q.cu.length d83) := ⟨LblAt.made w8 q (.slice a81 q.st.length d81) (.slice a82 q.bo.length d82) (.slice a83 q.cu.length d83) 26, fun o => frozen_of_row _ _ _ _ _ (heap_alloc_new _ _)⟩
      replace P8 := P8.below bk8
      simp only [Lbl.v]
      go_upto_region 10 with (fail)
      have U9 := U8.after bk8
      have B9 := b8.trans (bk8.mono b8.size)
      clear U8 b8 bk8
      go_wp2_with (fail)
      refine (c2.out _ B9).mono ?_
      rintro e w10 ⟨ga, gb, gc, gv, rfl, O10, V10, b10⟩
      clear c2
      obtain ⟨a101, d101, ev⟩ := O10.a.isSlice
      rw [List.length_map] at ev
      subst ev
      obtain ⟨a102, d102, ev⟩ := O10.b.isSlice
      rw [List.length_map] at ev
      subst ev
      obtain ⟨a103, d103, ev⟩ := O10.c.isSlice
      rw [List.length_map] at ev
      subst ev
      have P10 := O10.lr lq.1 lq.2.1 lq.2.2
      clear O10
      have bk10 : Below w10.heap.size w10 (w10.alloc (.cells #[.int .i64 q.i, .int .i64 q.s, .int .i64 q.g, .int .i64 q.k, .int .i64 q.m, .int .i64 q.b, .slice a101 q.st.length d101, .slice a102 q.bo.length d102, .slice a103 q.cu.length d103] 26)) := (Below.refl _ _).alloc (Nat.le_refl _) _
      have Q10 : LblBox (w10.alloc (.cells #[.int .i64 q.i, .int .i64 q.s, .int .i64 q.g, .int .i64 q.k, .int .i64 q.m, .int .i64 q.b, .slice a101 q.st.length d101, .slice a102 q.bo.length d102, .slice a103 q.cu.length d103] 26)) w10.heap.size q (.slice a101 q.st.length d101) (.slice a102 q.bo.length d102) (.slice a103 q.cu.length d103) := ⟨LblAt.made w10 q (.slice a101 q.st.length d101) (.slice a102 q.bo.length d102) (.slice a103 q.cu.length d103) 26, fun o => frozen_of_row _ _ _ _ _ (heap_alloc_new _ _)⟩
      replace P10 := P10.below bk10
      simp only [Lbl.v]
      go_upto_region 11 with (fail)
      have V11 := V10.after bk10
      have U11 := U9.after (b10.trans (bk10.mono b10.size))
      have Q11 := Q8.below (b10.trans (bk10.mono b10.size)) Q8.a.lt
      have P11 := P8.below (b10.trans (bk10.mono b10.size))
      have B11 := B9.trans ((b10.trans (bk10.mono b10.size)).mono B9.size)
      clear V10 b10 bk10 U9 Q8 P8 B9
      have c3' := c3.out _ B11
      unfold Lbl.v at c3'
      have A11 := A7.below B11 A7.a.lt
      have ⟨e0, e1, e2, e3, e4, e5, e6, e7, e8, elt⟩ := A11.a
      go_wp2_with (fail)
      refine c3'.mono ?_
      rintro e w12 ⟨ga, gb, gc, rfl, O12, b12⟩
      clear c3 c3' e0 e1 e2 e3 e4 e5 e6 e7 e8 elt
      obtain ⟨a121, d121, ev⟩ := O12.a.isSlice
      rw [List.length_map] at ev
      subst ev
      obtain ⟨a122, d122, ev⟩ := O12.b.isSlice
      rw [List.length_map] at ev
      subst ev
      obtain ⟨a123, d123, ev⟩ := O12.c.isSlice
      rw [List.length_map] at ev
      subst ev
      have P12 := O12.lr lx.1 lx.2.1 lx.2.2
      clear O12
      have bk12 : Below w12.heap.size w12 (w12.alloc (.cells #[.int .i64 nx.i, .int .i64 nx.s, .int .i64 nx.g, .int .i64 nx.k, .int .i64 nx.m, .int .i64 nx.b, .slice a121 nx.st.length d121, .slice a122 nx.bo.length d122, .slice a123 nx.cu.length d123] 26)) := (Below.refl _ _).alloc (Nat.le_refl _) _
      have Q12 : LblBox (w12.alloc (.cells #[.int .i64 nx.i, .int .i64 nx.s, .int .i64 nx.g, .int .i64 nx.k, .int .i64 nx.m, .int .i64 nx.b, .slice a121 nx.st.length d121, .slice a122 nx.bo.length d122, .slice a123 nx.cu.length d123] 26)) w12.heap.size nx (.slice a121 nx.st.length d121) (.slice a122 nx.bo.length d122) (.slice a123 nx.cu.length d123) := ⟨LblAt.made w12 nx (.slice a121 nx.st.length d121) (.slice a122 nx.bo.length d122) (.slice a123 nx.cu.length d123) 26, fun o => frozen_of_row _ _ _ _ _ (heap_alloc_new _ _)⟩
      replace P12 := P12.below bk12
      simp only [Lbl.v]
      go_upto_region 12 with (fail)
      have bb := b12.trans (bk12.mono b12.size)
      have V13 := V11.after bb
      have U13 := U11.after bb
      have Q13 := Q11.below bb Q11.a.lt
      have P13 := P11.below bb
      have R13 := Q10.below bb Q10.a.lt
      have S13 := P10.below bb
      have B13 := B11.trans (bb.mono B11.size)
      have A13 := A11.below bb A11.a.lt
      clear V11 b12 bk12 U11 Q11 P11 Q10 P10 B11 bb A11
      have c4' := c4.out _ B13
      unfold Lbl.v at c4'
      have ⟨e0, e1, e2, e3, e4, e5, e6, e7, e8, elt⟩ := A13.a
      go_wp2_with (fail)
      refine c4'.mono ?_
      rintro e w14 ⟨ga, gb, gc, rfl, O14, b14⟩
      clear c4 c4' e0 e1 e2 e3 e4 e5 e6 e7 e8 elt A13
      obtain ⟨a141, d141, ev⟩ := O14.a.isSlice
      rw [List.length_map] at ev
      subst ev
      obtain ⟨a142, d142, ev⟩ := O14.b.isSlice
      rw [List.length_map] at ev
      subst ev
      obtain ⟨a143, d143, ev⟩ := O14.c.isSlice
      rw [List.length_map] at ev
      subst ev
      have P14 := O14.lr lx.1 lx.2.1 lx.2.2
      clear O14
      have bk14 : Below w14.heap.size w14 (w14.alloc (.cells #[.int .i64 nx.i, .int .i64 nx.s, .int .i64 nx.g, .int .i64 nx.k, .int .i64 nx.m, .int .i64 nx.b, .slice a141 nx.st.length d141, .slice a142 nx.bo.length d142, .slice a143 nx.cu.length d143] 26)) := (Below.refl _ _).alloc (Nat.le_refl _) _
      have Q14 : LblBox (w14.alloc (.cells #[.int .i64 nx.i, .int .i64 nx.s, .int .i64 nx.g, .int .i64 nx.k, .int .i64 nx.m, .int .i64 nx.b, .slice a141 nx.st.length d141, .slice a142 nx.bo.length d142, .slice a143 nx.cu.length d143] 26)) w14.heap.size nx (.slice a141 nx.st.length d141) (.slice a142 nx.bo.length d142) (.slice a143 nx.cu.length d143) := ⟨LblAt.made w14 nx (.slice a141 nx.st.length d141) (.slice a142 nx.bo.length d142) (.slice a143 nx.cu.length d143) 26, fun o => frozen_of_row _ _ _ _ _ (heap_alloc_new _ _)⟩
      replace P14 := P14.below bk14
      simp only [Lbl.v]
      go_upto_region 13 with (fail)
      have bb := b14.trans (bk14.mono b14.size)
      have V15 := (V13.after bb).reads
      have U15 := (U13.after bb).reads
      have Q15 := Q13.below bb Q13.a.lt
      have P15 := P13.below bb
      have R15 := R13.below bb R13.a.lt
      have S15 := S13.below bb
      have T15 := Q12.below bb Q12.a.lt
      have M15 := P12.below bb
      have B15 := B13.trans (bb.mono B13.size)
      clear V13 b14 bk14 U13 Q13 P13 R13 S13 Q12 P12 B13 bb
      have Bf := Bw.trans (B15.mono Bw.size)
      have c5 := fun W h1 h2 => rsame_any q q (.slice a81 q.st.length d81) (.slice a82 q.bo.length d82) (.slice a83 q.cu.length d83) (.slice a101 q.st.length d101) (.slice a102 q.bo.length d102) (.slice a103 q.cu.length d103) W h1 h2
      have c6 := fun W h1 h2 => rsame_any nx nx (.slice a121 nx.st.length d121) (.slice a122 nx.bo.length d122) (.slice a123 nx.cu.length d123) (.slice a141 nx.st.length d141) (.slice a142 nx.bo.length d142) (.slice a143 nx.cu.length d143) W h1 h2
      have c7 := fun W h1 h2 => bools_any gu gv uu uu W h1 h2 (by omega)
      rw [decide_eq_true rfl] at c7
      simp only [decide_true] at c5 c6
      unfold Lbl.v at c5 c6
      have ye : (ee == ee) = true := beq_self_eq_true ee
      have yn : (ne == ne) = true := beq_self_eq_true ne
      have ⟨e0, e1, e2, e3, e4, e5, e6, e7, e8, elt⟩ := Q15.a
      have ⟨f0, f1, f2, f3, f4, f5, f6, f7, f8, flt⟩ := R15.a
      go_wp2_with (fail)
      refine (c5 _ P15 S15).mono ?_
      rintro e w16 ⟨rfl, b16⟩
      clear c5 e0 e1 e2 e3 e4 e5 e6 e7 e8 elt f0 f1 f2 f3 f4 f5 f6 f7 f8 flt P15 S15 Q15 R15
      have T16 := T15.below b16 T15.a.lt
      have N16 := Q14.below b16 Q14.a.lt
      have Bg := Bf.trans (b16.mono Bf.size)
      go_wp2_with (fail)
      refine (c7 _ (U15.below b16) (V15.below b16)).mono ?_
      rintro e w17 ⟨rfl, b17⟩
      clear c7 T15 Q14 Bf
      have T17 := T16.below b17 T16.a.lt
      have N17 := N16.below b17 N16.a.lt
      have Bh := Bg.trans (b17.mono Bg.size)
      have ⟨e0, e1, e2, e3, e4, e5, e6, e7, e8, elt⟩ := T17.a
      have ⟨f0, f1, f2, f3, f4, f5, f6, f7, f8, flt⟩ := N17.a
      go_wp2_with (fail)
      refine (c6 _ ((M15.below b16).below b17) ((P14.below b16).below b17)).mono ?_
      rintro e w18 ⟨rfl, b18⟩
      clear c6 e0 e1 e2 e3 e4 e5 e6 e7 e8 elt f0 f1 f2 f3 f4 f5 f6 f7 f8 flt T17 N17 T16 N16
      have Bi := Bh.trans (b18.mono Bh.size)
      go_wp2_with (fail)
      go_ret
      exact ⟨rfl, Bi⟩
end Go.Proofs.YtaopknddpagjeaaDoor
