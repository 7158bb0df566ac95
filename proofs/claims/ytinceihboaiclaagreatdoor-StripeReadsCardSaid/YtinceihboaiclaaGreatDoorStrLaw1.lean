/- stripe: to read asks no act: the loop's round. -/
import Derived.Test.YtinceihboaiclaaGreatDoorStrAw
import Derived.Test.YtinceihboaiclaaGreatDoorLmat
namespace Go.Proofs.YtinceihboaiclaaGreatDoor
open Go.RowKit
set_option linter.unusedVariables false
set_option linter.unusedSimpArgs false
set_option maxRecDepth 100000

theorem Reads.pre {w : World} {a : Option Addr} {n c q : Nat} {xs : List Value} (h : Reads w (.slice a n c) xs) (hq : q ≤ xs.length) : Reads w (.slice a q c) (xs.take q) := by
  rcases h with ⟨_, rfl⟩ | ⟨b, off, cap, e, h2, h3⟩
  · have : q = 0 := by simpa using hq
    subst this
    exact .inl ⟨⟨_, _, rfl⟩, by simp⟩
  · injection e with e1 e2 e3
    subst e1
    subst e3
    refine .inr ⟨b, off, _, by rw [List.length_take, Nat.min_eq_left hq], h2, fun i hi => ?_⟩
    rw [List.length_take, Nat.min_eq_left hq] at hi
    rw [h3 i (by omega), List.getD_eq_getElem?_getD, List.getD_eq_getElem?_getD, List.getElem?_take, if_pos hi]
theorem slice_hi13 {P : Program} {T E : TypeId} (hT : P.underlying T = some (.slice E)) (hz : ∀ W, (sizeOf E).run P W = .ok 1 W) (a : Option Addr) (n c p : Nat) (hp : p ≤ c) (W : World) : (Instr.slice T (.slice a n c) none (some (.int .i64 (p : Int))) none).run P W = .ok (.slice a p c) W := by
  have h1 : (p : Int) ≤ (c : Int) := by omega
  cases a with
  | none => simp [Instr.slice, run_underlying hT, Instr.sliceBounds, Instr.sliceBound, asIntOf, hz, hp]
  | some a =>
    simp [Instr.slice, run_underlying hT, Instr.sliceBounds, Instr.sliceBound, asIntOf, hz, hp]
    intro _
    cases a
    unfold Addr.add
    split <;> simp_all
theorem rdF_len {n : Nat} {R : Rk} {id K M B N : Int} : ∀ (l : List Int) sh hv bad, (rdF n R id K M B N sh hv bad l).2.2.length ≤ bad.length + l.length
  | [], sh, hv, bad => by simp [rdF]
  | x :: xs, sh, hv, bad => by
    unfold rdF
    refine Nat.le_trans (rdF_len xs _ _ _) ?_
    split
    · simp
    · simp; omega
theorem stR_len {n : Nat} {R : Rk} {id K M B N : Int} {l : List Int} : (stR n R id K M B l N).1.length ≤ 140737488355328 ∧ (stR n R id K M B l N).2.1.length ≤ l.length := by
  have hb : (rdA n R id K M B N l).2.2.length ≤ l.length := by have := rdF_len (n := n) (R := R) (id := id) (K := K) (M := M) (B := B) (N := N) l (List.replicate n ⟨#[]⟩) (List.replicate n false) []; simpa [rdA] using this
  have hd : (decL M (rdA n R id K M B N l).1 (rdA n R id K M B N l).2.1).length ≤ 140737488355328 := by
    unfold decL
    split
    · exact (mulL_fits _ _).n
    · simp
  unfold stR
  split
  · split
    · simp
    · split
      · exact ⟨hd, hb⟩
      · exact ⟨by simp, hb⟩
  · simp
set_option maxHeartbeats 2000000 in
theorem reads_walk (K0 M0 B0 : Int) (v1 v2 : Value) (ws : List (Value × List Int)) (l : List Int) (N0 : Int) (w : World) (ht : Tabs w) (hk : (-9223372036854775808 ≤ K0 ∧ K0 ≤ 9223372036854775807) ∧ (-9223372036854775808 ≤ M0 ∧ M0 ≤ 9223372036854775807) ∧ -9223372036854775808 ≤ B0 ∧ B0 ≤ 9223372036854775807) (R1 : ChR w v1 ws) (hn1 : ws.length ≤ 9223372036854775806) (R2 : Reads w v2 (l.map (.int .i64))) (hc2 : capOk v2) (hl2 : l.length ≤ 9223372036854775806) :
    Calls Tryz.prog 6 #[.agg #[.int .i64 K0, .int .i64 M0, .int .i64 B0], v1, v2, .int .i64 N0] w fun e w' => e = .returned (.bool true) ∧ Below w.heap.size w w' := by
  have hg := fit_right K0 M0 B0
  have cA := aw13_any
  have cF := fun W => fit7_any K0 M0 B0 W hk.1.1 hk.1.2 hk.2.1.1 hk.2.1.2 hk.2.2.1 hk.2.2.2
  have hkm := k_cases hg
  obtain ⟨k, hK⟩ := Int.eq_ofNat_of_zero_le (show 0 ≤ fK K0 by omega)
  obtain ⟨m, hM⟩ := Int.eq_ofNat_of_zero_le (show 0 ≤ fM M0 by omega)
  obtain ⟨B, hB⟩ : ∃ B, fB B0 = B := ⟨_, rfl⟩
  rw [hK, hM, hB] at cF hg hkm
  clear hK hM hB hk
  obtain ⟨sec, hsec⟩ := Int.eq_ofNat_of_zero_le (show 0 ≤ gSectors (k : Int) (m : Int) B by
    have := sectors_eq hg
    have hd := div_rng (K := (k : Int)) (B := B) (by omega) ⟨hkm.2.2.1, hkm.2.2.2⟩
    omega)
  have cRk := fun W => racks_any k m sec B W hg hsec
  have hk9 : k ≤ 4 ∧ m ≤ 3 ∧ 1 ≤ k := by omega
  obtain ⟨n, hn⟩ : ∃ n, k + m = n := ⟨_, rfl⟩
  obtain ⟨T, hT⟩ : ∃ T, gStripes (k : Int) (m : Int) B = T := ⟨_, rfl⟩
  have hTr : 1 ≤ T ∧ T ≤ 200 := by rw [← hT, stripes_eq hg]; exact div_rng (by omega) ⟨hkm.2.2.1, hkm.2.2.2⟩
  have CAll : Hid (∀ W, Calls Tryz.prog 14 #[.agg #[.int .i64 (k : Int), .int .i64 (m : Int), .int .i64 B]] W (GivesZ W (allL n))) := Lib.hid fun W => by rw [← hn]; exact all13_any k m B W (by omega) (by omega)
  have CT : Hid (∀ W, Calls Tryz.prog 11 #[.agg #[.int .i64 (k : Int), .int .i64 (m : Int), .int .i64 B]] W fun e w' => e = .returned (.int .i64 T) ∧ Below W.heap.size W w') := Lib.hid fun W => by rw [← hT]; exact rstripes_any _ _ _ W
  have CRk : Hid (∀ W, Calls Tryz.prog 9 #[.agg #[.int .i64 (k : Int), .int .i64 (m : Int), .int .i64 B]] W (RacksTo W n sec)) := Lib.hid fun W => by rw [← hn]; exact cRk W
  have HN7 : Hid (n ≤ 7 ∧ k ≤ 4) := Lib.hid (by omega)
  have HTR := Lib.hid hTr
  clear cRk hsec hkm hg hn hT hk9 hTr
  obtain ⟨g0, hg0⟩ : ∃ g0, w.heap.size = g0 := ⟨_, rfl⟩
  obtain ⟨W0, hW0⟩ : ∃ W0, W0 = w.alloc (.cells #[.int .i64 K0, .int .i64 M0, .int .i64 B0] 23) := ⟨_, rfl⟩
  have hb0 : Below w.heap.size w W0 := by rw [hW0]; exact (Below.refl _ _).alloc (Nat.le_refl _) _
  have hr0 : W0.heap[g0]? = some (.cells #[.int .i64 K0, .int .i64 M0, .int .i64 B0] 23 (0, 0)) := by rw [hW0, ← hg0]; exact heap_alloc_new _ _
  have hr0l := (Array.getElem?_eq_some_iff.1 hr0).1
  have ht0 := ht.below hb0 ht.two
  have HT2 := Lib.hid ht.two
  have HB0 := Lib.hid hb0
  have HR1 := Lib.hid R1
  obtain ⟨hRw0, _⟩ := id R1
  obtain ⟨va1, vc1, hv1, _⟩ := Reads.items hRw0
  subst hv1
  clear hRw0
  obtain ⟨va2, vc2, hv2, _⟩ := Reads.items R2
  subst hv2
  have HR2 := Lib.hid R2
  have HG0 := Lib.hid hg0
  clear ht R1 R2 hb0
  go_enter Tryz.func6, Tryz.ntmps6
  go_wp2_with (fail)
  rw [show w.alloc (.cells #[.int .i64 K0, .int .i64 M0, .int .i64 B0] 23) = W0 from hW0.symm]
  clear hW0
  refine (cA W0 ht0).mono ?_
  rintro e w1 ⟨rfl, b1⟩
  have r0 : w1.cell? ⟨g0, 0, none⟩ = some (.int .i64 K0) := heap_cell ((b1.block g0 hr0l).trans hr0) rfl
  have r1 : w1.cell? ⟨g0, 1, none⟩ = some (.int .i64 M0) := heap_cell ((b1.block g0 hr0l).trans hr0) rfl
  have r2 : w1.cell? ⟨g0, 2, none⟩ = some (.int .i64 B0) := heap_cell ((b1.block g0 hr0l).trans hr0) rfl
  have ht1 := ht0.below b1 ht0.two
  have HB1 := Lib.hid (HB0.out.trans (b1.mono HB0.out.size))
  clear cA b1 ht0 hr0 hr0l
  go_wp2_with (fail)
  refine (cF w1).mono ?_
  rintro e w2 ⟨rfl, b2⟩
  have ht2 := ht1.below b2 ht1.two
  obtain ⟨W3, hW3⟩ : ∃ W3, W3 = w2.alloc (.cells #[.int .i64 (k : Int), .int .i64 (m : Int), .int .i64 B] 23) := ⟨_, rfl⟩
  obtain ⟨g, hg⟩ : ∃ g, w2.heap.size = g := ⟨_, rfl⟩
  have hb3 : Below w2.heap.size w2 W3 := by rw [hW3]; exact (Below.refl _ _).alloc (Nat.le_refl _) _
  have hg3 : W3.heap[g]? = some (.cells #[.int .i64 (k : Int), .int .i64 (m : Int), .int .i64 B] 23 (0, 0)) := by rw [hW3, ← hg]; exact heap_alloc_new _ _
  have hgl := (Array.getElem?_eq_some_iff.1 hg3).1
  have ht3 := ht2.below hb3 ht2.two
  have HB3 := Lib.hid (HB1.out.trans ((b2.trans (hb3.mono b2.size)).mono HB1.out.size))
  have e0 : W3.cell? ⟨g, 0, none⟩ = some (.int .i64 (k : Int)) := heap_cell hg3 rfl
  have e1 : W3.cell? ⟨g, 1, none⟩ = some (.int .i64 (m : Int)) := heap_cell hg3 rfl
  have e2 : W3.cell? ⟨g, 2, none⟩ = some (.int .i64 B) := heap_cell hg3 rfl
  clear cF b2 ht1 ht2 r0 r1 r2 hb3 HB1 HB0
  go_wp2_with (fail)
  rw [show w2.alloc (.cells #[.int .i64 (k : Int), .int .i64 (m : Int), .int .i64 B] 23) = W3 from hW3.symm]
  clear hW3
  refine (CRk.out W3).mono ?_
  rintro e w4 ⟨S4, ka, wq, Sb, kb, rfl, a4, _, _, _⟩
  have h4 : SW W3 S4 w4 ka n g (k : Int) (m : Int) B (R00 sec) := ⟨a4, (a4.b.block g hgl).trans hg3, fun z => by have := a4.f g z; omega, ht3.below a4.b ht3.two, ht3.two⟩
  have H4 := Lib.hid h4
  clear a4 h4 hg3 hgl ht3 e0 e1 e2 hg CRk
  go_wp2_with (fail)
  go_loopw [13] (fun t wr => ∃ (i : Nat) (S : Nat → Prop) (R : Rk), i ≤ ws.length ∧ i ≤ 9 ∧ t = .int .i64 (i : Int) ∧ SW W3 S wr ka n g (k : Int) (m : Int) B R ∧ ROk n R (7 * i)) (fun t _ => ws.length - (intOf t).toNat)
  case atStart => exact ⟨0, S4, R00 sec, Nat.zero_le _, by omega, rfl, H4.out, rok_00 n sec⟩
  case round =>
    clear H4
    obtain ⟨i, S, R, hi, hi9, rfl, h, hro⟩ := hrel
    rename World => wr
    by_cases hlt9 : i < ws.length ∧ i < 9
    · obtain ⟨hlt, h9⟩ := hlt9
      have y1 : (i : Int) < (ws.length : Int) := by omega
      have y2 : (i : Int) < 9 := by omega
      obtain ⟨⟨vw, ls⟩, hx⟩ : ∃ x, ws[i] = x := ⟨_, rfl⟩
      obtain ⟨hRw, hFw⟩ := HR1.out
      obtain ⟨va1', vc1', hv1', hit⟩ := Reads.items hRw
      obtain rfl : va1 = va1' := by injection hv1'
      clear hv1'
      obtain ⟨cb, co, rfl, hcb, hc0⟩ := hit i hlt
      obtain ⟨hRl, hIn, hLl⟩ := hFw ws[i] (List.getElem_mem hlt)
      rw [hx] at hc0 hRl hIn hLl
      obtain ⟨xa, xc, hxv, _⟩ := Reads.items hRl
      obtain rfl : vw = .slice xa ls.length xc := hxv
      have HC : Hid (∀ W, Below W3.heap.size W3 W → W.cell? ⟨cb, co + i, none⟩ = some (.slice xa ls.length xc)) := Lib.hid fun W hW => ((HB3.out.trans (hW.mono HB3.out.size)).cell (p := ⟨cb, co + i, none⟩) hcb).trans hc0
      obtain ⟨N, hN⟩ : ∃ N, pk (i : Int) T = N := ⟨_, rfl⟩
      have cP := fun W => pick13_any (i : Int) T W (by omega) (by omega) HTR.out.1 (by have := HTR.out.2; omega)
      rw [hN] at cP
      have cAll := CAll.out
      have cT := CT.out
      have hsz := h.ra.b.size
      have CD : Hid (∀ W, Below wr.heap.size wr W → Calls Tryz.prog 12 #[.agg #[.int .i64 (k : Int), .int .i64 (m : Int), .int .i64 B], .slice xa ls.length xc] W (GivesT W (dataL13 k ls))) := Lib.hid fun W hW => data13_any k m B _ ls W (by have := HN7.out.2; omega) (hRl.below (HB3.out.trans ((h.ra.b.trans (hW.mono hsz)).mono HB3.out.size))) (fun c hc => in64_iff.1 (hIn c hc)) (Nat.le_trans hLl (by decide))
      obtain ⟨X, hX⟩ : ∃ X, stW n R 3 (k : Int) (m : Int) B (allL n) N (dataL13 k ls) = X := ⟨_, rfl⟩
      have hdr := data_rect (dataL13_right k ls)
      have hXo := stW_ok (K := (k : Int)) (M := (m : Int)) (B := B) (id := 3) (N := N) (l := allL n) (data := dataL13 k ls) hro
      rw [hX, allL_len] at hXo
      have CW : Hid (∀ W v vd, Below wr.heap.size wr W → Own W wr.heap.size 3 v ((allL n).map (.int .i64)) → Own W wr.heap.size 9 vd (tx (dataL13 k ls)) → Calls Tryz.prog 13 #[.pointer (some ⟨ka, 0, none⟩), .int .i64 3, .agg #[.int .i64 (k : Int), .int .i64 (m : Int), .int .i64 B], v, .agg #[.int .i64 N, vd]] W (EDoes W3 S W ka n X)) := Lib.hid fun W v vd hW o od => by
        have hW3 := h.after hW
        have hl : Lst W S v _ := Lst.own o fun q hq hS => by have := h.ra.lt q hS; have := (o.o.lt q hq).1; omega
        have h7 := HN7.out
        have := stw_any hW3.ra hW3.tb (7 * i) hro 3 (k : Int) (m : Int) B N v vd (allL n) (dataL13 k ls) hl.r hl.c (fun q hq => (hl.n q hq).2) (by rw [allL_len]; omega) (by rw [allL_len]; omega) od.reads ⟨by rw [dataL13_len]; omega, fun j hj => by
          rw [dataL13_len] at hj
          rw [hdr.s j hj]; decide⟩ (by rw [dataL13_len]; omega)
        rwa [hX] at this
      have HS : Hid (∀ W, Below wr.heap.size wr W → (W.heap[g]? = some (.cells #[.int .i64 (k : Int), .int .i64 (m : Int), .int .i64 B] 23 (0, 0)) ∧ W.cell? ⟨cb, co + i, none⟩ = some (.slice xa ls.length xc))) := Lib.hid fun W hW => ⟨(h.after hW).gb, HC.out W (h.after hW).ra.b⟩
      have hNr : Hid (ROk n X.1 (7 * (i + 1))) := Lib.hid (hXo.le (by have := HN7.out.1; omega))
      clear hRw hFw hit hc0 hRl hIn hLl hN hX hdr hXo hro hx hcb hsz
      go_upto_region 9 with (fail)
      refine wp_region_held_drew (S := fun W => W.heap[g]? = some (.cells #[.int .i64 (k : Int), .int .i64 (m : Int), .int .i64 B] 23 (0, 0)) ∧ W.cell? ⟨cb, co + i, none⟩ = some (.slice xa ls.length xc)) (by kernel_rfl) (HS.out _ (Below.drew_ wr)) (fun hHeld => ?_)
      refine wpAnyH_takeD (i := 0) (some 45) rfl (by kernel_rfl) (by kernel_rfl) (by kernel_rfl) rfl (fun _ _ _ h => h) (Or.inl ⟨by rfl, by rintro w ⟨hs1, hs2⟩; first | rfl | (go_simp; done) | (go_simp; rfl)⟩) (by assumption) ?_
      simp only [Act.put, List.setIfInBounds_toArray, List.set_cons_zero, List.set_cons_succ]
      refine wpAnyH_takeD (i := 1) (v := .agg #[.int .i64 (k : Int), .int .i64 (m : Int), .int .i64 B]) (some 46) rfl (by kernel_rfl) (by kernel_rfl) (by kernel_rfl) rfl (fun _ _ _ h => h) (yieldsIf_load_run (by rfl) _ rfl rfl (fun _ hs => geo_load hs.1)) (by assumption) ?_
      simp only [Act.put, List.setIfInBounds_toArray, List.set_cons_zero, List.set_cons_succ]
      refine wpAnyH_takeD (i := 2) (v := .agg #[.int .i64 (k : Int), .int .i64 (m : Int), .int .i64 B]) (some 47) rfl (by kernel_rfl) (by kernel_rfl) (by kernel_rfl) rfl (fun _ _ _ h => h) (yieldsIf_load_run (by rfl) _ rfl rfl (fun _ hs => geo_load hs.1)) (by assumption) ?_
      simp only [Act.put, List.setIfInBounds_toArray, List.set_cons_zero, List.set_cons_succ]
      refine wpAnyH_takeD (i := 4) (some 49) rfl (by kernel_rfl) (by kernel_rfl) (by kernel_rfl) rfl (fun _ _ _ h => h) (Or.inl ⟨by rfl, by rintro w ⟨hs1, hs2⟩; first | rfl | (go_simp; done) | (go_simp; rfl)⟩) (by assumption) ?_
      simp only [Act.put, List.setIfInBounds_toArray, List.set_cons_zero, List.set_cons_succ]
      refine wpAnyH_takeD (i := 5) (v := .agg #[.int .i64 (k : Int), .int .i64 (m : Int), .int .i64 B]) (some 50) rfl (by kernel_rfl) (by kernel_rfl) (by kernel_rfl) rfl (fun _ _ _ h => h) (yieldsIf_load_run (by rfl) _ rfl rfl (fun _ hs => geo_load hs.1)) (by assumption) ?_
      simp only [Act.put, List.setIfInBounds_toArray, List.set_cons_zero, List.set_cons_succ]
      refine wpAnyH_takeD (i := 8) (v := .agg #[.int .i64 (k : Int), .int .i64 (m : Int), .int .i64 B]) (some 53) rfl (by kernel_rfl) (by kernel_rfl) (by kernel_rfl) rfl (fun _ _ _ h => h) (yieldsIf_load_run (by rfl) _ rfl rfl (fun _ hs => geo_load hs.1)) (by assumption) ?_
      simp only [Act.put, List.setIfInBounds_toArray, List.set_cons_zero, List.set_cons_succ]
      refine wpAnyH_takeD (i := 9) (some 54) rfl (by kernel_rfl) (by kernel_rfl) (by kernel_rfl) rfl (fun _ _ _ h => h) (Or.inl ⟨by rfl, by rintro w ⟨hs1, hs2⟩; first | rfl | (go_simp; done) | (go_simp; rfl)⟩) (by assumption) ?_
      simp only [Act.put, List.setIfInBounds_toArray, List.set_cons_zero, List.set_cons_succ]
      refine wpAnyH_takeD (i := 10) (some 55) rfl (by kernel_rfl) (by kernel_rfl) (by kernel_rfl) rfl (fun _ _ _ h => h) (Or.inl ⟨by rfl, by rintro w ⟨hs1, hs2⟩; first | rfl | (go_simp; done) | (go_simp; rfl)⟩) (by assumption) ?_
      simp only [Act.put, List.setIfInBounds_toArray, List.set_cons_zero, List.set_cons_succ]
      refine wpAnyH_takeD (i := 11) (v := .pointer (some ⟨cb, co + i, none⟩)) (some 56) rfl (by kernel_rfl) (by kernel_rfl) (by kernel_rfl) rfl (fun _ _ _ h => h) (yieldsIf_index_run (by rfl) _ _ rfl rfl rfl (fun W => slc_at Tryz.underlying54 (fun W => by kernel_rfl) cb co _ _ i hlt W)) (by assumption) ?_
      simp only [Act.put, List.setIfInBounds_toArray, List.set_cons_zero, List.set_cons_succ]
      refine wpAnyH_takeD (i := 12) (v := .slice xa ls.length xc) (some 57) rfl (by kernel_rfl) (by kernel_rfl) (by kernel_rfl) rfl (fun _ _ _ h => h) (yieldsIf_load_run (by rfl) _ rfl rfl (fun _ hs => cell_load (fun W => by kernel_rfl) hs.2)) (by assumption) ?_
      simp only [Act.put, List.setIfInBounds_toArray, List.set_cons_zero, List.set_cons_succ]
      refine wpAnyH_ready (rs := [3]) (by kernel_rfl) (by simp) ?_
      refine AllReadyH.cons rfl (fun K hK => ?_) AllReadyH.nil
      go_simp
      refine (cAll wr.drew).mono ?_
      rintro e w3 ⟨v3, rfl, o3, b3⟩
      have b13 := (Below.drew_ wr).trans b3
      refine hK.out _ _ (HS.out _ b13) (fun hHeld => ?_)
      clear hK
      try simp only [Act.put, List.setIfInBounds_toArray, List.set_cons_zero, List.set_cons_succ]
      refine wpAnyH_ready (rs := [6]) (by kernel_rfl) (by simp) ?_
      refine AllReadyH.cons rfl (fun K hK => ?_) AllReadyH.nil
      go_simp
      refine (cT w3).mono ?_
      rintro e w4 ⟨rfl, b4⟩
      have b14 := b13.trans (b4.mono b13.size)
      refine hK.out _ _ (HS.out _ b14) (fun hHeld => ?_)
      clear hK
      try simp only [Act.put, List.setIfInBounds_toArray, List.set_cons_zero, List.set_cons_succ]
      refine wpAnyH_ready (rs := [7]) (by kernel_rfl) (by simp) ?_
      refine AllReadyH.cons rfl (fun K hK => ?_) AllReadyH.nil
      go_simp
      refine (cP w4).mono ?_
      rintro e w4x ⟨rfl, rfl⟩
      refine hK.out _ _ (HS.out _ b14) (fun hHeld => ?_)
      clear hK
      try simp only [Act.put, List.setIfInBounds_toArray, List.set_cons_zero, List.set_cons_succ]
      have cD := CD.out w4 b14
      refine wpAnyH_ready (rs := [13]) (by kernel_rfl) (by simp) ?_
      refine AllReadyH.cons rfl (fun K hK => ?_) AllReadyH.nil
      go_simp
      refine cD.mono ?_
      rintro e w5 ⟨v5, rfl, o5, b5⟩
      have b15 := b14.trans (b5.mono b14.size)
      have b35 := b4.trans (b5.mono b4.size)
      obtain ⟨da, dc, hdf⟩ := o5.reads.form
      rw [List.length_map, dataL13_len] at hdf
      subst hdf
      refine hK.out _ _ (HS.out _ b15) (fun hHeld => ?_)
      clear hK
      try simp only [Act.put, List.setIfInBounds_toArray, List.set_cons_zero, List.set_cons_succ]
      refine wpAnyH_takeD (i := 14) (v := .agg #[.int .i64 N, .slice da k dc]) (some 59) rfl (by kernel_rfl) (by kernel_rfl) (by kernel_rfl) rfl (fun _ _ _ h => h) (Or.inl ⟨by rfl, by rintro w ⟨hs1, hs2⟩; first | rfl | (go_simp; done) | (go_simp; rfl)⟩) (by assumption) ?_
      simp only [Act.put, List.setIfInBounds_toArray, List.set_cons_zero, List.set_cons_succ]
      have cW := CW.out w5 v3 (.slice da k dc) b15 (o3.after b35) (o5.down b14.size)
      refine wpAnyH_ready (rs := [15]) (by kernel_rfl) (by simp) ?_
      refine AllReadyH.cons rfl (fun K hK => ?_) AllReadyH.nil
      go_simp
      refine cW.mono ?_
      rintro e w6 ⟨v6, rfl, S6, s6, a6, o6, n6⟩
      have h6 := (h.after b15).stp s6 a6
      refine hK.out _ _ ⟨h6.gb, HC.out _ h6.ra.b⟩ (fun hHeld => ?_)
      clear hK
      try simp only [Act.put, List.setIfInBounds_toArray, List.set_cons_zero, List.set_cons_succ]
      refine wpAnyH_done (by kernel_rfl) ?_ _
      have H6 := Lib.hid h6
      clear h cAll cT cP b13 b14 b15 b35 b3 b4 b5 o3 o5 cD cW s6 a6 o6 n6 h6 hHeld
      go_wp2_with (fail)
      go_roundw
      case rel => exact ⟨i + 1, S6, X.1, by omega, by omega, by go_num, H6.out, hNr.out⟩
      case measure => simp [intOf]; omega
    · have cAc := rt_acts h.ra
      obtain ⟨q, hq⟩ : ∃ q, min l.length 20 = q := ⟨_, rfl⟩
      have hql : q ≤ l.length ∧ q ≤ 20 := by omega
      have hmin : min ((l.length : Nat) : Int) 20 = (q : Int) := by omega
      have hvc : l.length ≤ vc2 := hc2
      have hsl := slice_hi13 Tryz.underlying24 (fun W => by kernel_rfl) va2 l.length vc2 q (by omega)
      have hsz := h.ra.b.size
      have hwr : Below w.heap.size w wr := HB3.out.trans (h.ra.b.mono HB3.out.size)
      have hrt : Reads wr (.slice va2 q vc2) ((l.take q).map (.int .i64)) := by
        rw [List.map_take]
        exact (HR2.out.pre (by rw [List.length_map]; exact hql.1)).below hwr
      have CRD0 : ∀ W, Below wr.heap.size wr W → Calls Tryz.prog 20 #[.pointer (some ⟨ka, 0, none⟩), .int .i64 3, .agg #[.int .i64 (k : Int), .int .i64 (m : Int), .int .i64 B], .slice va2 q vc2, .int .i64 N0] W (RdDoes W (stR n R 3 (k : Int) (m : Int) B (l.take q) N0)) := fun W hW => str_any (h.after hW).ra (h.after hW).tb (hro.le (by omega)) 3 (k : Int) (m : Int) B N0 _ (l.take q) (hrt.below hW) (show q ≤ vc2 by omega) (by rw [List.length_take]; omega)
      obtain ⟨Y, hY⟩ : ∃ Y, stR n R 3 (k : Int) (m : Int) B (l.take q) N0 = Y := ⟨_, rfl⟩
      have hYl := stR_len (n := n) (R := R) (id := 3) (K := (k : Int)) (M := (m : Int)) (B := B) (N := N0) (l := l.take q)
      rw [hY, List.length_take] at hYl
      have hY1 := hYl.1
      have hY2 : Y.2.1.length ≤ 140737488355328 := by have := hYl.2; omega
      rw [hY] at CRD0
      have cR1 := CRD0 wr (Below.refl _ _)
      have CRD := Lib.hid CRD0
      have c0 : wr.cell? ⟨g, 0, none⟩ = some (.int .i64 (k : Int)) := heap_cell h.gb rfl
      have c1 : wr.cell? ⟨g, 1, none⟩ = some (.int .i64 (m : Int)) := heap_cell h.gb rfl
      have c2 : wr.cell? ⟨g, 2, none⟩ = some (.int .i64 B) := heap_cell h.gb rfl
      clear hq hql CRD0 hY hYl hrt hvc hsz hwr
      by_cases hw : i < ws.length
      · have y1 : (i : Int) < (ws.length : Int) := by omega
        have y2 : ¬ ((i : Int) < 9) := by omega
        clear hw hlt9
        go_wp2_with (fail)
        refine cAc.mono ?_
        rintro e wa ⟨rfl, rfl⟩
        go_wp2_with (fail)
        refine cR1.mono ?_
        rintro e wb ⟨vd, vb, rfl, od, ob, bb⟩
        obtain ⟨xa, xc, hfd⟩ := od.reads.form
        obtain ⟨ya, yc, hfb⟩ := ob.reads.form
        rw [show (tx Y.1).length = Y.1.length from List.length_map ..] at hfd
        rw [List.length_map] at hfb
        subst hfd
        subst hfb
        have hb := h.after bb
        have cR2 := CRD.out wb bb
        have c0 : wb.cell? ⟨g, 0, none⟩ = some (.int .i64 (k : Int)) := heap_cell hb.gb rfl
        have c1 : wb.cell? ⟨g, 1, none⟩ = some (.int .i64 (m : Int)) := heap_cell hb.gb rfl
        have c2 : wb.cell? ⟨g, 2, none⟩ = some (.int .i64 B) := heap_cell hb.gb rfl
        have OD := Lib.hid od
        have OB := Lib.hid ob
        have HBb := Lib.hid hb
        clear cAc cR1 od ob bb hb h
        go_wp2_with (fail)
        refine cR2.mono ?_
        rintro e wc ⟨vd2, vb2, rfl, od2, ob2, bc⟩
        obtain ⟨xa2, xc2, hfd2⟩ := od2.reads.form
        obtain ⟨ya2, yc2, hfb2⟩ := ob2.reads.form
        rw [show (tx Y.1).length = Y.1.length from List.length_map ..] at hfd2
        rw [List.length_map] at hfb2
        subst hfd2
        subst hfb2
        have hc := HBb.out.after bc
        have cAc2 := rt_acts hc.ra
        have cSm := same_any _ _ Y.1 Y.1 wc (OD.out.after bc).reads od2.reads hY1 hY1
        rw [show decide (Y.1 = Y.1) = true from decide_eq_true rfl] at cSm
        have OBc := Lib.hid (OB.out.after bc).reads
        have OB2 := Lib.hid ob2.reads
        have HFin : Hid (∀ W, Below wc.heap.size wc W → Below w.heap.size w W) := Lib.hid fun W hW => HB3.out.trans ((hc.ra.b.trans (hW.mono hc.ra.b.size)).mono HB3.out.size)
        clear cR2 c0 c1 c2 od2 ob2 bc hc OD OB HBb CRD
        go_wp2_with (fail)
        refine cAc2.mono ?_
        rintro e wc2 ⟨rfl, rfl⟩
        go_wp2_with (fail)
        refine cSm.mono ?_
        rintro e wd ⟨rfl, bd, -⟩
        have cI := ints8_any (.slice ya Y.2.1.length yc) (.slice ya2 Y.2.1.length yc2) Y.2.1 Y.2.1 wd (OBc.out.below bd) (OB2.out.below bd) hY2 hY2
        rw [show decide (Y.2.1 = Y.2.1) = true from decide_eq_true rfl] at cI
        have HBd := Lib.hid bd
        clear cAc2 cSm bd OBc OB2
        go_wp2_with (fail)
        refine cI.mono ?_
        rintro e we ⟨rfl, be, -⟩
        have hfin := Lib.hid (HFin.out we (HBd.out.trans (be.mono HBd.out.size)))
        clear cI be
        go_wp2_with (fail)
        go_ret
        exact ⟨rfl, hfin.out⟩
      · have y1 : ¬ ((i : Int) < (ws.length : Int)) := by omega
        clear hw hlt9
        go_wp2_with (fail)
        refine cAc.mono ?_
        rintro e wa ⟨rfl, rfl⟩
        go_wp2_with (fail)
        refine cR1.mono ?_
        rintro e wb ⟨vd, vb, rfl, od, ob, bb⟩
        obtain ⟨xa, xc, hfd⟩ := od.reads.form
        obtain ⟨ya, yc, hfb⟩ := ob.reads.form
        rw [show (tx Y.1).length = Y.1.length from List.length_map ..] at hfd
        rw [List.length_map] at hfb
        subst hfd
        subst hfb
        have hb := h.after bb
        have cR2 := CRD.out wb bb
        have c0 : wb.cell? ⟨g, 0, none⟩ = some (.int .i64 (k : Int)) := heap_cell hb.gb rfl
        have c1 : wb.cell? ⟨g, 1, none⟩ = some (.int .i64 (m : Int)) := heap_cell hb.gb rfl
        have c2 : wb.cell? ⟨g, 2, none⟩ = some (.int .i64 B) := heap_cell hb.gb rfl
        have OD := Lib.hid od
        have OB := Lib.hid ob
        have HBb := Lib.hid hb
        clear cAc cR1 od ob bb hb h
        go_wp2_with (fail)
        refine cR2.mono ?_
        rintro e wc ⟨vd2, vb2, rfl, od2, ob2, bc⟩
        obtain ⟨xa2, xc2, hfd2⟩ := od2.reads.form
        obtain ⟨ya2, yc2, hfb2⟩ := ob2.reads.form
        rw [show (tx Y.1).length = Y.1.length from List.length_map ..] at hfd2
        rw [List.length_map] at hfb2
        subst hfd2
        subst hfb2
        have hc := HBb.out.after bc
        have cAc2 := rt_acts hc.ra
        have cSm := same_any _ _ Y.1 Y.1 wc (OD.out.after bc).reads od2.reads hY1 hY1
        rw [show decide (Y.1 = Y.1) = true from decide_eq_true rfl] at cSm
        have OBc := Lib.hid (OB.out.after bc).reads
        have OB2 := Lib.hid ob2.reads
        have HFin : Hid (∀ W, Below wc.heap.size wc W → Below w.heap.size w W) := Lib.hid fun W hW => HB3.out.trans ((hc.ra.b.trans (hW.mono hc.ra.b.size)).mono HB3.out.size)
        clear cR2 c0 c1 c2 od2 ob2 bc hc OD OB HBb CRD
        go_wp2_with (fail)
        refine cAc2.mono ?_
        rintro e wc2 ⟨rfl, rfl⟩
        go_wp2_with (fail)
        refine cSm.mono ?_
        rintro e wd ⟨rfl, bd, -⟩
        have cI := ints8_any (.slice ya Y.2.1.length yc) (.slice ya2 Y.2.1.length yc2) Y.2.1 Y.2.1 wd (OBc.out.below bd) (OB2.out.below bd) hY2 hY2
        rw [show decide (Y.2.1 = Y.2.1) = true from decide_eq_true rfl] at cI
        have HBd := Lib.hid bd
        clear cAc2 cSm bd OBc OB2
        go_wp2_with (fail)
        refine cI.mono ?_
        rintro e we ⟨rfl, be, -⟩
        have hfin := Lib.hid (HFin.out we (HBd.out.trans (be.mono HBd.out.size)))
        clear cI be
        go_wp2_with (fail)
        go_ret
        exact ⟨rfl, hfin.out⟩
end Go.Proofs.YtinceihboaiclaaGreatDoor
