/- journal: Put. -/
import Derived.Test.YtfadglcpapiklaaGreatDoorJrnEach
import Derived.Test.YtfadglcpapiklaaGreatDoorJrnSl
import Derived.Test.YtfadglcpapiklaaGreatDoorLreca
import Derived.Deep.CutBlock
namespace Go.Proofs.YtfadglcpapiklaaGreatDoor
open Go.RowKit
open Rc
set_option linter.unusedVariables false
set_option linter.unusedSimpArgs false
set_option maxRecDepth 100000

/-- Steps that are done with each of those that are left. -/
def phs : List (Rk → Int → Rk × Int) → Rk → List Int → Rk × List Int × Int
  | [], R, l => (R, l, 0)
  | f :: fs, R, l => if (ea f R [] l).2.2 = 0 then phs fs (ea f R [] l).1 (keepL l (ea f R [] l).2.1) else ((ea f R [] l).1, [], (ea f R [] l).2.2)
/-- The four steps of a Put. -/
def putF (n : Nat) (id : Int) (a : Nat) (h : ByteArray) (b : List ByteArray) (i : Nat) : Rk → Int → Rk × Int := if i = 0 then fun R x => wsM n id x R (a + 1) b else if i = 2 then fun R x => wsM n id x R a [h] else fl1 n
def putS (n : Nat) (id : Int) (a : Nat) (h : ByteArray) (b : List ByteArray) : List (Rk → Int → Rk × Int) := (List.range 4).map (putF n id a h b)
theorem phs_drop {n : Nat} {id : Int} {a : Nat} {h : ByteArray} {b : List ByteArray} {i : Nat} (hi : i < 4) (R : Rk) (l : List Int) : phs ((putS n id a h b).drop i) R l = if (ea (putF n id a h b i) R [] l).2.2 = 0 then phs ((putS n id a h b).drop (i + 1)) (ea (putF n id a h b i) R [] l).1 (keepL l (ea (putF n id a h b i) R [] l).2.1) else ((ea (putF n id a h b i) R [] l).1, [], (ea (putF n id a h b i) R [] l).2.2) := by
  rw [List.drop_eq_getElem_cons (show i < (putS n id a h b).length by simpa [putS] using hi)]
  simp only [putS, List.getElem_map, List.getElem_range]
  rfl
theorem phs_end {n : Nat} {id : Int} {a : Nat} {h : ByteArray} {b : List ByteArray} (R : Rk) (l : List Int) : phs ((putS n id a h b).drop 4) R l = (R, l, 0) := by
  rw [List.drop_eq_nil_of_le (by simp [putS])]; rfl
/-- Which members have failed, in the order of the list. -/
def puX (n : Nat) (id : Int) (a : Nat) (h : ByteArray) (b : List ByteArray) (R : Rk) (l : List Int) : Rk × List Int × Int :=
  if (phs (putS n id a h b) R l).2.2 = 0 then ((phs (putS n id a h b) R l).1, keepL l (phs (putS n id a h b) R l).2.1, 0) else ((phs (putS n id a h b) R l).1, [], (phs (putS n id a h b) R l).2.2)
def puM (n : Nat) (R : Rk) (id K M B : Int) (l : List Int) (q : Int) (ss : List St) : Rk × List Int × Int :=
  if sfitsB n R id K M B = true ∧ srightB l (n : Int) = true then (if rightB K M B q ss = true then puX n id (gHead K M B q).toNat (layS q ss) (allT ss) R l else (R, [], 110)) else (R, [], 1)
theorem putF_ok {n : Nat} {id : Int} {a : Nat} {h : ByteArray} {b : List ByteArray} (hb : b.length ≤ 64) (i : Nat) (R : Rk) (x : Int) (c : Nat) (hk : ROk n R c) : ROk n (putF n id a h b i R x).1 (c + 64) := by
  unfold putF
  split
  · exact wsM_ok _ _ _ c hk (by omega)
  · split
    · exact wsM_ok _ _ _ c hk (by simp)
    · exact (fl1_ok R x c hk).le (by omega)
theorem ea_len12 {σ : Type} (f : σ → Int → σ × Int) : ∀ (l : List Int) (s : σ) (acc : List Int), (ea f s acc l).2.1.length ≤ acc.length + l.length
  | [], s, acc => by simp [ea]
  | x :: xs, s, acc => by
    unfold ea
    split
    · have := ea_len12 f xs (f s x).1 acc
      simp only [List.length_cons]; omega
    · split
      · have := ea_len12 f xs (f s x).1 (acc ++ [x])
        simp only [List.length_append, List.length_cons, List.length_nil] at this ⊢; omega
      · simp
theorem keep_len (l s : List Int) : (keepL l s).length ≤ l.length := List.length_filter_le _ _
theorem keep_nil {l s : List Int} (h : keepL l s ≠ []) : l ≠ [] := fun e => h (by rw [e]; rfl)
theorem lay_small {K M B q : Int} {ss : List St} (h : rightB K M B q ss = true) : (layS q ss).size ≤ 200 ∧ (allT ss).length ≤ 64 ∧ (∀ t ∈ allT ss, t.size = 120) ∧ ∃ a : Nat, gHead K M B q = (a : Int) ∧ a ≤ 67 := by
  have hf := right_f h
  have h1 := headTo_size q ss (Nat.le_refl _)
  have h2 := cameT_len hf (Nat.le_refl _)
  rw [cameT_all] at h2
  have h3 := numL_size ((sumT (allT ss) : Nat) : Int) 4 (by decide)
  have hn := hf.n
  refine ⟨?_, by omega, fun t ht => ?_, ?_⟩
  · show (headTo q ss ss.length ++ numL _ 4).size ≤ 200
    rw [ByteArray.size_append]
    have h3' : (numL ((sumT (allT ss) : Nat) : Int) 4).size ≤ 7 := h3
    omega
  · unfold allT at ht
    obtain ⟨s, hs, ht⟩ := List.mem_flatMap.1 ht
    exact hf.z s hs t ht
  · unfold rightB ordB at h
    simp only [Bool.and_eq_true, decide_eq_true_eq] at h
    obtain ⟨⟨hg, hq, _⟩, _⟩ := h
    have hK := gR_true hg
    have e : gHead K M B q = 2 + q % 2 * (1 + 16 * K) := by
      unfold gHead
      rw [hg, decide_eq_true (show 0 ≤ q by omega)]; rfl
    have hm : q % 2 = 0 ∨ q % 2 = 1 := by omega
    refine ⟨(gHead K M B q).toNat, ?_, ?_⟩
    · rw [e]; rcases hm with z | z <;> rw [z] <;> omega
    · rw [e]; rcases hm with z | z <;> rw [z] <;> omega
section
variable {w w1 : World} {S : Nat → Prop} {k n : Nat} {R : Rk}
set_option maxHeartbeats 8000000 in
theorem put_any (h : RA w S w1 k n R) (c : Nat) (hk : ROk n R c) (id K M B q : Int) (vl vs : Value) (l : List Int) (ss : List St) (hv : LsN w1 S vl l) (hcap : capOk vl) (hl : l.length ≤ 1000) (hc : c ≤ 900000000000) (hs : SReads w1 vs ss) (hsn : ss.length ≤ 140737488351232) (hq : q ≤ 9223372036854775807) :
    Calls Tryz.prog 13 #[.pointer (some ⟨k, 0, none⟩), .int .i64 id, .agg #[.int .i64 K, .int .i64 M, .int .i64 B], vl, .agg #[.int .i64 q, vs]] w1 (EDoes w S w1 k n (puM n R id K M B l q ss)) := by
  obtain ⟨W0, hW0⟩ : ∃ W0, W0 = (((w1.alloc (.cells #[.pointer (some ⟨k, 0, none⟩)] 33)).alloc (.cells #[.int .i64 id] 3)).alloc (.cells #[.int .i64 K, .int .i64 M, .int .i64 B] 23)).alloc (.cells #[.int .i64 q, vs] 30) := ⟨_, rfl⟩
  obtain ⟨f1, f2, f3, f4, hsz, hb0⟩ := four4 w1 (.cells #[.pointer (some ⟨k, 0, none⟩)] 33) (.cells #[.int .i64 id] 3) (.cells #[.int .i64 K, .int .i64 M, .int .i64 B] 23) (.cells #[.int .i64 q, vs] 30)
  rw [← hW0] at f1 f2 f3 f4 hsz hb0
  have hs2 := hs
  obtain ⟨sa, sc, hsf, _⟩ := hs2
  subst hsf
  have cF := sfits_any (h.after hb0) id K M B
  have HA := Lib.hid h
  have HB0 := Lib.hid hb0
  obtain ⟨va, vc, hvf⟩ := hv.r.form
  rw [List.length_map] at hvf
  subst hvf
  have HV := Lib.hid hv
  have HS := Lib.hid hs
  have HCP := Lib.hid hcap
  have HK := Lib.hid hk
  have g0 : W0.cell? ⟨w1.heap.size, 0, none⟩ = some (.pointer (some ⟨k, 0, none⟩)) := heap_cell f1 rfl
  have g1 : W0.cell? ⟨w1.heap.size + 1, 0, none⟩ = some (.int .i64 id) := heap_cell f2 rfl
  have g2 : W0.cell? ⟨w1.heap.size + 1 + 1, 0, none⟩ = some (.int .i64 K) := heap_cell f3 rfl
  have g3 : W0.cell? ⟨w1.heap.size + 1 + 1, 1, none⟩ = some (.int .i64 M) := heap_cell f3 rfl
  have g4 : W0.cell? ⟨w1.heap.size + 1 + 1, 2, none⟩ = some (.int .i64 B) := heap_cell f3 rfl
  have BX : Hid (∀ W, Below W0.heap.size W0 W → (W.cell? ⟨w1.heap.size, 0, none⟩ = some (.pointer (some ⟨k, 0, none⟩)) ∧ W.cell? ⟨w1.heap.size + 1, 0, none⟩ = some (.int .i64 id)) ∧ (W.cell? ⟨w1.heap.size + 1 + 1, 0, none⟩ = some (.int .i64 K) ∧ W.cell? ⟨w1.heap.size + 1 + 1, 1, none⟩ = some (.int .i64 M) ∧ W.cell? ⟨w1.heap.size + 1 + 1, 2, none⟩ = some (.int .i64 B)) ∧ W.cell? ⟨w1.heap.size + 1 + 1 + 1, 0, none⟩ = some (.int .i64 q) ∧ W.cell? ⟨w1.heap.size + 1 + 1 + 1, 1, none⟩ = some (.slice sa ss.length sc)) := Lib.hid fun W hW => by
    have e1 := (hW.block w1.heap.size (by omega)).trans f1
    have e2 := (hW.block (w1.heap.size + 1) (by omega)).trans f2
    have e3 := (hW.block (w1.heap.size + 1 + 1) (by omega)).trans f3
    have e4 := (hW.block (w1.heap.size + 1 + 1 + 1) (by omega)).trans f4
    exact ⟨⟨heap_cell e1 rfl, heap_cell e2 rfl⟩, ⟨heap_cell e3 rfl, heap_cell e3 rfl, heap_cell e3 rfl⟩, heap_cell e4 rfl, heap_cell e4 rfl⟩
  have CR : Hid (∀ W, Below w1.heap.size w1 W → Calls Tryz.prog 42 #[.slice va l.length vc, .int .i64 (n : Int)] W fun e w' => e = .returned (.bool (srightB l (n : Int))) ∧ W = w') := Lib.hid fun W hW => sright_any _ l W (hv.r.below hW) hcap _ (by omega)
  have CS : Hid (∀ W, Below w1.heap.size w1 W → Calls Tryz.prog 43 #[.pointer (some ⟨k, 0, none⟩)] W fun e w' => e = .returned (.int .i64 (n : Int)) ∧ W = w') := Lib.hid fun W hW => rt_slots (h.after hW)
  have CL : Hid (∀ W, Below w1.heap.size w1 W → Calls Tryz.prog 44 #[.agg #[.int .i64 K, .int .i64 M, .int .i64 B], .agg #[.int .i64 q, .slice sa ss.length sc]] W (GivesL11 W K M B q ss)) := Lib.hid fun W hW => lay_any K M B q _ ss W (hs.below hW) hsn
  have CH : Hid (∀ W, Calls Tryz.prog 45 #[.agg #[.int .i64 K, .int .i64 M, .int .i64 B], .int .i64 q] W fun e w' => e = .returned (.int .i64 (gHead K M B q)) ∧ Below W.heap.size W w') := Lib.hid fun W => head_any K M B q W hq
  have HF4 := Lib.hid (And.intro f1 (And.intro f2 (And.intro f3 (And.intro f4 hsz))))
  clear f1 f2 f3 f4 hsz hb0 hv hs hcap hk h
  by_cases hfit : sfitsB n R id K M B = true
  · rw [hfit] at cF
    by_cases hri : srightB l (n : Int) = true
    · rw [hri] at CR
      by_cases hrg : rightB K M B q ss = true
      · obtain ⟨hls, hbl, hbz, a, hga, ha⟩ := lay_small hrg
        have hX : puM n R id K M B l q ss = puX n id a (layS q ss) (allT ss) R l := by
          unfold puM
          rw [if_pos ⟨hfit, hri⟩, if_pos hrg, hga]; rfl
        rw [hX]
        rw [hga] at CH
        have HL := Lib.hid (And.intro hls (And.intro hbl hbz))
        have HRG := Lib.hid hrg
        clear hX hls hbl hbz hga hrg hri hfit
        obtain ⟨HD, hHD⟩ : ∃ HD, layS q ss = HD := ⟨_, rfl⟩
        obtain ⟨BD, hBD⟩ : ∃ BD, allT ss = BD := ⟨_, rfl⟩
        rw [hHD, hBD] at HL
        rw [hHD, hBD]
        obtain ⟨Y, hY⟩ : ∃ Y, puX n id a HD BD R l = Y := ⟨_, rfl⟩
        rw [hY]
        have HY := Lib.hid hY
        clear hY
        have HHB := Lib.hid (And.intro hHD hBD)
        clear hHD hBD
        obtain ⟨p, hp⟩ : ∃ p, w1.heap.size = p := ⟨_, rfl⟩
        rw [hp] at g0 g1 g2 g3 g4 BX
        go_enter Tryz.func13, Tryz.ntmps13
        go_wp2_with (fail)
        rw [show (((w1.alloc (.cells #[.pointer (some ⟨k, 0, none⟩)] 33)).alloc (.cells #[.int .i64 id] 3)).alloc (.cells #[.int .i64 K, .int .i64 M, .int .i64 B] 23)).alloc (.cells #[.int .i64 q, .slice sa ss.length sc] 30) = W0 from hW0.symm]
        clear hW0
        have HP := Lib.hid hp
        clear hp
        refine cF.mono ?_
        rintro e w2 ⟨rfl, b2⟩
        obtain ⟨⟨x1, x2⟩, ⟨y1, y2, y3⟩, z1, z2⟩ := BX.out w2 b2
        have cS := CS.out w2 (HB0.out.trans (b2.mono HB0.out.size))
        have cR := CR.out w2 (HB0.out.trans (b2.mono HB0.out.size))
        clear cF g0 g1 g2 g3 g4
        go_wp2_with (fail)
        refine cS.mono ?_
        rintro e w2' ⟨rfl, rfl⟩
        go_wp2_with (fail)
        refine cR.mono ?_
        rintro e w2' ⟨rfl, rfl⟩
        clear cS cR
        have cL := CL.out w2 (HB0.out.trans (b2.mono HB0.out.size))
        clear CL CR CS
        go_wp2_with (fail)
        refine cL.mono ?_
        rintro e w4 ⟨v4, rfl, o4, b4⟩
        clear x1 x2 y1 y2 y3 z1 z2 cL
        have hrg := HRG.out
        have hHB := HHB.out
        rw [hrg, if_pos rfl, hHB.2] at o4
        simp only [hrg, if_true, hHB.1]
        obtain ⟨xa, xc, hf4⟩ := o4.reads.form
        rw [List.length_map] at hf4
        subst hf4
        clear hrg hHB
        obtain ⟨b12, hb12⟩ : ∃ b12, w4.heap.size = b12 := ⟨_, rfl⟩
        obtain ⟨W5, hW5⟩ : ∃ W5, W5 = (w4.alloc (.cells #[.string HD] 9)).alloc (.cells #[.slice xa BD.length xc] 54) := ⟨_, rfl⟩
        have B04 := b2.trans (b4.mono b2.size)
        have ba : Below w4.heap.size w4 (w4.alloc (.cells #[.string HD] 9)) := (Below.refl _ _).alloc (Nat.le_refl _) _
        have bb : Below (w4.alloc (.cells #[.string HD] 9)).heap.size (w4.alloc (.cells #[.string HD] 9)) W5 := by rw [hW5]; exact (Below.refl _ _).alloc (Nat.le_refl _) _
        have hsz5 : (w4.alloc (.cells #[.string HD] 9)).heap.size = b12 + 1 := by rw [← hb12]; simp
        have b45 : Below w4.heap.size w4 W5 := ba.trans (bb.mono ba.size)
        have i1 : W5.heap[b12]? = some (.cells #[.string HD] 9 (0, 0)) := (bb.block b12 (by omega)).trans (by rw [← hb12]; exact heap_alloc_new _ _)
        have i2 : W5.heap[b12 + 1]? = some (.cells #[.slice xa BD.length xc] 54 (0, 0)) := by rw [hW5, ← hsz5]; exact heap_alloc_new _ _
        have B05 := B04.trans (b45.mono B04.size)
        have o5 := Lib.hid (o4.after b45)
        have HI := Lib.hid (And.intro i1 (And.intro i2 (show W0.heap.size ≤ b12 by rw [← hb12]; exact B04.size)))
        have HXA : Hid (∀ q, (Value.slice xa BD.length xc).ownBlock = some q → w1.heap.size ≤ q ∧ q < W5.heap.size) := Lib.hid fun q hq => by
          have h1 := (o4.after b45).o.lt q hq
          have h2 := HB0.out.size
          have h3 := b2.size
          omega
        clear ba bb hsz5 b45 i1 i2 o4 b4 B04 b2
        go_upto_region 4 with (fail)
        rw [show (w4.alloc (.cells #[.string HD] 9)).alloc (.cells #[.slice xa BD.length xc] 54) = W5 from hW5.symm]
        clear hW5 hb12
        obtain ⟨_, ⟨y1, y2, y3⟩, z1, z2⟩ := BX.out W5 B05
        go_wp2_with (fail)
        refine (CH.out W5).mono ?_
        rintro e w6 ⟨rfl, b6⟩
        clear y1 y2 y3 z1 z2 CH
        obtain ⟨b15, hb15⟩ : ∃ b15, w6.heap.size = b15 := ⟨_, rfl⟩
        obtain ⟨W7, hW7⟩ : ∃ W7, W7 = w6.alloc (.cells #[.int .i64 (a : Int)] 3) := ⟨_, rfl⟩
        have b67 : Below w6.heap.size w6 W7 := by rw [hW7]; exact (Below.refl _ _).alloc (Nat.le_refl _) _
        have i3 : W7.heap[b15]? = some (.cells #[.int .i64 (a : Int)] 3 (0, 0)) := by rw [hW7, ← hb15]; exact heap_alloc_new _ _
        have b57 := b6.trans (b67.mono b6.size)
        have hl15 : W5.heap.size ≤ b15 := by rw [← hb15]; exact b6.size
        go_upto_region 7 with (fail)
        rw [show w6.alloc (.cells #[.int .i64 (a : Int)] 3) = W7 from hW7.symm]
        clear hW7 hb15 b67 b6
        obtain ⟨⟨x1, x2⟩, _⟩ := BX.out W7 (B05.trans (b57.mono B05.size))
        obtain ⟨b58, hb58⟩ : ∃ b58, W7.heap.size = b58 := ⟨_, rfl⟩
        obtain ⟨fv, hfv⟩ : ∃ fv : Nat → Value, fv = fun i => if i = 0 then .func (.func 46) #[] #[.pointer (some ⟨p, 0, none⟩), .pointer (some ⟨p + 1, 0, none⟩), .pointer (some ⟨b15, 0, none⟩), .pointer (some ⟨b12 + 1, 0, none⟩)] else if i = 2 then .func (.func 48) #[] #[.pointer (some ⟨p, 0, none⟩), .pointer (some ⟨p + 1, 0, none⟩), .pointer (some ⟨b15, 0, none⟩), .pointer (some ⟨b12, 0, none⟩)] else .func (.func 29) #[.pointer (some ⟨k, 0, none⟩)] #[] := ⟨_, rfl⟩
        obtain ⟨W8, hW8⟩ : ∃ W8, W8 = W7.alloc (.cells #[.func (.func 46) #[] #[.pointer (some ⟨p, 0, none⟩), .pointer (some ⟨p + 1, 0, none⟩), .pointer (some ⟨b15, 0, none⟩), .pointer (some ⟨b12 + 1, 0, none⟩)], .func (.func 29) #[.pointer (some ⟨k, 0, none⟩)] #[], .func (.func 48) #[] #[.pointer (some ⟨p, 0, none⟩), .pointer (some ⟨p + 1, 0, none⟩), .pointer (some ⟨b15, 0, none⟩), .pointer (some ⟨b12, 0, none⟩)], .func (.func 29) #[.pointer (some ⟨k, 0, none⟩)] #[]] 68) := ⟨_, rfl⟩
        have b78 : Below W7.heap.size W7 W8 := by rw [hW8]; exact (Below.refl _ _).alloc (Nat.le_refl _) _
        have i4 : W8.heap[b58]? = some (.cells #[.func (.func 46) #[] #[.pointer (some ⟨p, 0, none⟩), .pointer (some ⟨p + 1, 0, none⟩), .pointer (some ⟨b15, 0, none⟩), .pointer (some ⟨b12 + 1, 0, none⟩)], .func (.func 29) #[.pointer (some ⟨k, 0, none⟩)] #[], .func (.func 48) #[] #[.pointer (some ⟨p, 0, none⟩), .pointer (some ⟨p + 1, 0, none⟩), .pointer (some ⟨b15, 0, none⟩), .pointer (some ⟨b12, 0, none⟩)], .func (.func 29) #[.pointer (some ⟨k, 0, none⟩)] #[]] 68 (0, 0)) := by rw [hW8, ← hb58]; exact heap_alloc_new _ _
        have b58' := b57.trans (b78.mono b57.size)
        have B08 := B05.trans (b58'.mono B05.size)
        have B18 : Below w1.heap.size w1 W8 := HB0.out.trans (B08.mono HB0.out.size)
        have hFV : Hid (∀ i, i < 4 → W8.cell? ⟨b58, i, none⟩ = some (fv i)) := Lib.hid fun i hi => by
          rw [hfv]
          rcases (by omega : i = 0 ∨ i = 1 ∨ i = 2 ∨ i = 3) with rfl | rfl | rfl | rfl <;> exact heap_cell i4 rfl
        have ii1 := (b58'.block b12 (Array.getElem?_eq_some_iff.1 HI.out.1).1).trans HI.out.1
        have ii2 := (b58'.block (b12 + 1) (Array.getElem?_eq_some_iff.1 HI.out.2.1).1).trans HI.out.2.1
        have ii3 := (b78.block b15 (Array.getElem?_eq_some_iff.1 i3).1).trans i3
        have hcl0 : ∀ W, Below W0.heap.size W0 W → W.cell? ⟨p, 0, none⟩ = some (.pointer (some ⟨k, 0, none⟩)) ∧ W.cell? ⟨p + 1, 0, none⟩ = some (.int .i64 id) := fun W hW => (BX.out W hW).1
        have h8 := HA.out.after B18
        have hpp := True.intro
        have KEEP : Hid (∀ S' wr, Stp S S' W8 wr → ∀ z, w1.heap.size ≤ z → z < W8.heap.size → wr.heap[z]? = W8.heap[z]? ∧ ¬ S' z) := Lib.hid fun S' wr hs z hz1 hz2 => by
          have hnS : ¬ S z := fun y => by have := HA.out.lt z y; omega
          refine ⟨hs.oth z hz2 hnS, fun y => ?_⟩
          rcases hs.grow z y with y | y
          · exact hnS y
          · omega
        have CE : Hid (∀ i, i < 4 → ∀ S' R' wr c' v (left : List Int), RA w S' wr k n R' → Stp S S' W8 wr → ROk n R' c' → c' + 64000 ≤ 1000000000000 → LsN wr S' v left → left.length ≤ 1000 → Calls Tryz.prog 49 #[v, fv i] wr (EDoes w S' wr k n (ea (putF n id a HD BD i) R' [] left))) := Lib.hid fun i hi S' R' wr c' v left hA' hs' hk' hc' hv' hl' => by
          have hp5 := fun z h1 h2 => KEEP.out S' wr hs' z h1 h2
          have hsz8 := b58'.size
          have hsz7 := b78.size
          have l12 := (Array.getElem?_eq_some_iff.1 ii1).1
          have l13 := (Array.getElem?_eq_some_iff.1 ii2).1
          have l15 := (Array.getElem?_eq_some_iff.1 ii3).1
          have hw0 := HB0.out.size
          have hPe := HP.out
          have hz0 := HF4.out.2.2.2.2
          have hz5 := B05.size
          have cc := hcl0 W8 B08
          have hXA := HXA.out
          have hmul : 64 * left.length ≤ 64000 := by omega
          have box : ∀ S2 W2, Stp S' S2 wr W2 → (W2.cell? ⟨p, 0, none⟩ = some (.pointer (some ⟨k, 0, none⟩)) ∧ W2.cell? ⟨p + 1, 0, none⟩ = some (.int .i64 id) ∧ W2.cell? ⟨b15, 0, none⟩ = some (.int .i64 (a : Int)) ∧ W2.cell? ⟨b12, 0, none⟩ = some (.string HD) ∧ W2.cell? ⟨b12 + 1, 0, none⟩ = some (.slice xa BD.length xc)) ∧ (Reads W2 (.slice xa BD.length xc) (tx BD) ∧ ∀ q, (Value.slice xa BD.length xc).ownBlock = some q → ¬ S2 q) := fun S2 W2 hs2 => by
            have hk2 := KEEP.out S2 W2 (hs'.trans hs2)
            have hb12 := HI.out.2.2
            refine ⟨⟨(cell_of_heap (hk2 p (by omega) (by omega)).1 0).trans cc.1, (cell_of_heap (hk2 (p + 1) (by omega) (by omega)).1 0).trans cc.2, (cell_of_heap (hk2 b15 (by omega) l15).1 0).trans (heap_cell ii3 rfl), (cell_of_heap (hk2 b12 (by omega) l12).1 0).trans (heap_cell ii1 rfl), (cell_of_heap (hk2 (b12 + 1) (by omega) l13).1 0).trans (heap_cell ii2 rfl)⟩, (o5.out.reads.below b58').kept (hs'.trans hs2).b0.size fun q hq _ => (hk2 q (hXA q hq).1 (by have := (hXA q hq).2; omega)).1, fun q hq => (hk2 q (hXA q hq).1 (by have := (hXA q hq).2; omega)).2⟩
          have hL := HL.out
          rw [hfv]
          rcases (by omega : i = 0 ∨ i = 1 ∨ i = 2 ∨ i = 3) with rfl | rfl | rfl | rfl
          · refine each_put1 _ _ _ _ hA' 64 c' hk' (putF n id a HD BD 0) (fun R x c h => putF_ok hL.2.1 0 R x c h) v left hv'.r (fun h0 q hq => (hv'.n h0 q hq).2) (by omega) (by omega) fun x hx S2 R2 W2 hA2 hs2 hk2 => ?_
            obtain ⟨⟨c1, c2, c3, _, c5⟩, hr, hn⟩ := box S2 W2 hs2
            exact put1_any hA2 (1000000000000 - 64) hk2 x a (by omega) _ BD ⟨c1, c2, c3, c5⟩ (by omega) hr hn (fun t ht => by rw [hL.2.2 t ht]; decide) (by omega)
          · refine each_flush hA' 64 c' hk' (putF n id a HD BD 1) (fun R x c h => putF_ok hL.2.1 1 R x c h) v left hv'.r (fun h0 q hq => (hv'.n h0 q hq).2) (by omega) (by omega) fun x hx S2 R2 W2 hA2 hs2 hk2 => ?_
            exact rt_flush hA2 x (hk2.le (by omega))
          · refine each_put2 _ _ _ _ hA' 64 c' hk' (putF n id a HD BD 2) (fun R x c h => putF_ok hL.2.1 2 R x c h) v left hv'.r (fun h0 q hq => (hv'.n h0 q hq).2) (by omega) (by omega) fun x hx S2 R2 W2 hA2 hs2 hk2 => ?_
            obtain ⟨⟨c1, c2, c3, c4, _⟩, _, _⟩ := box S2 W2 hs2
            exact put2_any hA2 (1000000000000 - 64) hk2 x a (by omega) HD ⟨c1, c2, c3, c4⟩ (by omega) (by omega)
          · refine each_flush hA' 64 c' hk' (putF n id a HD BD 3) (fun R x c h => putF_ok hL.2.1 3 R x c h) v left hv'.r (fun h0 q hq => (hv'.n h0 q hq).2) (by omega) (by omega) fun x hx S2 R2 W2 hA2 hs2 hk2 => ?_
            exact rt_flush hA2 x (hk2.le (by omega))
        have H8 := Lib.hid h8
        have HBL := Lib.hid HL.out.2.1
        have HV8 : Hid (LsN W8 S (.slice va l.length vc) l) := Lib.hid (HV.out.after B18)
        have HB18 := Lib.hid B18
        have HFI : Hid (Y = if (phs (putS n id a HD BD) R l).2.2 = 0 then ((phs (putS n id a HD BD) R l).1, keepL l (phs (putS n id a HD BD) R l).2.1, 0) else ((phs (putS n id a HD BD) R l).1, [], (phs (putS n id a HD BD) R l).2.2)) := Lib.hid HY.out.symm
        obtain ⟨X, hX⟩ : ∃ X, phs (putS n id a HD BD) R l = X := ⟨_, rfl⟩
        rw [hX] at HFI
        have HX := Lib.hid hX
        have HFB : Hid (w1.heap.size ≤ b58 ∧ b58 < W8.heap.size) := Lib.hid ⟨by rw [← hb58]; exact Nat.le_trans HB0.out.size (Nat.le_trans B05.size b57.size), (Array.getElem?_eq_some_iff.1 i4).1⟩
        clear hX HY i3 i4 ii1 ii2 ii3 hcl0 h8 hpp HI o5 HXA hfv B05 B08 B18 b57 b78 b58' hl15 HF4 HB0 BX HP HL
        go_upto_block 0 with (fail)
        rw [show W7.alloc (.cells #[.func (.func 46) #[] #[.pointer (some ⟨p, 0, none⟩), .pointer (some ⟨p + 1, 0, none⟩), .pointer (some ⟨b15, 0, none⟩), .pointer (some ⟨b12 + 1, 0, none⟩)], .func (.func 29) #[.pointer (some ⟨k, 0, none⟩)] #[], .func (.func 48) #[] #[.pointer (some ⟨p, 0, none⟩), .pointer (some ⟨p + 1, 0, none⟩), .pointer (some ⟨b15, 0, none⟩), .pointer (some ⟨b12, 0, none⟩)], .func (.func 29) #[.pointer (some ⟨k, 0, none⟩)] #[]] 68) = W8 from hW8.symm]
        clear hW8 hb58 x1 x2
        go_wp2_with (fail)
        go_loopw [18, 20, 21, 22, 60] (fun u _ _ _ t wr => ∃ (i : Nat) (S' : Nat → Prop) (R' : Rk) (left : List Int) (ua : Option Addr) (uc : Nat), u = .slice ua left.length uc ∧ t = .int .i64 (i : Int) ∧ i ≤ 4 ∧ Hid (Stp S S' W8 wr ∧ RA w S' wr k n R' ∧ ROk n R' (c + i * 64000) ∧ LsN wr S' u left ∧ left.length ≤ 1000 ∧ X = phs ((putS n id a HD BD).drop i) R' left)) (fun _ _ _ _ t _ => 4 - (RowKit.intOf t).toNat)
        case atStart => exact ⟨0, S, R, l, va, vc, rfl, rfl, by omega, Lib.hid ⟨Stp.refl _ _, H8.out, HK.out, HV8.out, hl, HX.out.symm⟩⟩
        case round =>
          clear H8 HX HK
          obtain ⟨i, S', R', left, ua, uc, rfl, rfl, hi, hH⟩ := hrel
          rename World => wr
          by_cases h4 : i < 4
          · have y1 : (i : Int) < 4 := by omega
            have hcell : wr.cell? ⟨b58, i, none⟩ = some (fv i) := (cell_of_heap (KEEP.out S' wr hH.out.1 b58 HFB.out.1 HFB.out.2).1 i).trans (hFV.out i h4)
            have cE := CE.out i h4 S' R' wr _ (.slice ua left.length uc) left hH.out.2.1 hH.out.1 hH.out.2.2.1 (by omega) hH.out.2.2.2.1 hH.out.2.2.2.2.1
            have hXe := hH.out.2.2.2.2.2
            rw [phs_drop h4] at hXe
            have hok := ea_ok (b := 64) (f := putF n id a HD BD i) (fun R x c h => putF_ok HBL.out i R x c h) left R' [] _ hH.out.2.2.1
            obtain ⟨E, hE⟩ : ∃ E, ea (putF n id a HD BD i) R' [] left = E := ⟨_, rfl⟩
            rw [hE] at cE hXe hok
            have hEl : E.2.1.length ≤ 1000 := by
              rw [← hE]
              have := ea_len12 (putF n id a HD BD i) left R' []
              have := hH.out.2.2.2.2.1
              simp only [List.length_nil] at *
              omega
            have HXE := Lib.hid hXe
            have HOK : Hid (ROk n E.1 (c + (i + 1) * 64000)) := Lib.hid (hok.le (by have := hH.out.2.2.2.2.1; omega))
            have HEL := Lib.hid hEl
            clear hXe hok hE hEl
            go_wp2_with (fail)
            refine cE.mono ?_
            rintro e w9 ⟨v9, rfl, S9, s9, a9, o9, n9⟩
            have hL9 := hH.out.2.2.2.1.stp s9
            obtain ⟨xa9, xc9, hf9⟩ := o9.reads.form
            rw [List.length_map] at hf9
            subst hf9
            have S89 := Lib.hid (hH.out.1.trans s9)
            clear cE hcell
            by_cases h0 : E.2.2 = 0
            · have hr0 := HXE.out
              rw [if_pos h0] at hr0
              have HR0 := Lib.hid hr0
              have HH0 := Lib.hid h0
              have cW := without_any _ _ left E.2.1 w9 hL9.r o9.reads (fun _ q hq => (o9.o.lt q hq).2) hH.out.2.2.2.2.1 (by have := HEL.out; omega)
              have A9 := Lib.hid a9
              have HLL := Lib.hid hH.out.2.2.2.2.1
              clear hr0 hL9 s9 o9 n9 a9 hH HXE
              have te : (E.2.2 != 0) = false := by rw [h0]; rfl
              clear h0
              go_wp2_with (fail)
              refine cW.mono ?_
              rintro e w10 ⟨v10, rfl, o10, b10⟩
              obtain ⟨xa10, xc10, hf10⟩ := o10.reads.form
              rw [List.length_map] at hf10
              subst hf10
              have hA10 := A9.out.after b10
              have hS10 := S89.out.trans (Stp.quiet b10)
              have hL10 : LsN w10 S9 (.slice xa10 (keepL left E.2.1).length xc10) (keepL left E.2.1) := LsN.own o10 fun q hq => A9.out.lt q hq
              have HN : Hid (Stp S S9 W8 w10 ∧ RA w S9 w10 k n E.1 ∧ ROk n E.1 (c + (i + 1) * 64000) ∧ LsN w10 S9 (.slice xa10 (keepL left E.2.1).length xc10) (keepL left E.2.1) ∧ (keepL left E.2.1).length ≤ 1000 ∧ X = phs ((putS n id a HD BD).drop (i + 1)) E.1 (keepL left E.2.1)) := Lib.hid ⟨hS10, hA10, HOK.out, hL10, Nat.le_trans (keep_len _ _) HLL.out, HR0.out⟩
              clear cW te o10 b10 hA10 hS10 hL10
              go_wp2_with (fail)
              go_roundw
              case rel => exact ⟨i + 1, S9, E.1, keepL left E.2.1, xa10, xc10, rfl, by go_num, by omega, HN.out⟩
              case measure => simp [RowKit.intOf]; omega
            · have hr0 := HXE.out
              rw [if_neg h0] at hr0
              have hfi := HFI.out
              rw [hr0, if_neg h0] at hfi
              have hfin : Hid (EDoes w S w1 k n (E.1, [], E.2.2) (.returned (.tuple #[.slice none 0 0, .int .i64 E.2.2])) w9) := Lib.hid ⟨_, rfl, S9, (Stp.quiet HB18.out).trans S89.out, a9, Own.nil _ _ _, fun q hq => by cases hq⟩
              have hYe := Lib.hid hfi
              have te : (E.2.2 != 0) = true := by rw [bne_iff_ne]; exact h0
              have te2 : (E.2.2 == 0) = false := by rw [beq_eq_false_iff_ne]; exact h0
              clear hr0 hfi hL9 s9 o9 n9 a9 hH HXE HFI h0
              go_wp2_with (fail)
              go_ret2
              rw [hYe.out]
              exact hfin.out
          · obtain rfl : i = 4 := by omega
            have hXe := hH.out.2.2.2.2.2
            rw [phs_end] at hXe
            have hfi := HFI.out
            rw [hXe, if_pos rfl] at hfi
            have hYe := Lib.hid hfi
            have hlw := HV8.out.stp hH.out.1
            have cW := without_any _ _ l left wr hlw.r hH.out.2.2.2.1.r (fun h0 q hq => (hH.out.2.2.2.1.n h0 q hq).1) hl (by have := hH.out.2.2.2.2.1; omega)
            have A9 := Lib.hid hH.out.2.1
            have S9 := Lib.hid hH.out.1
            have y1 : ¬ ((4 : Int) < 4) := by omega
            clear hXe hfi hlw hH HFI h4
            simp only [show ((4 : Nat) : Int) = 4 from rfl]
            go_wp2_with (fail)
            refine cW.mono ?_
            rintro e w10 ⟨v10, rfl, o10, b10⟩
            obtain ⟨xa10, xc10, hf10⟩ := o10.reads.form
            rw [List.length_map] at hf10
            subst hf10
            have hfin : Hid (EDoes w S w1 k n (R', keepL l left, 0) (.returned (.tuple #[.slice xa10 (keepL l left).length xc10, .int .i64 0])) w10) := Lib.hid ⟨_, rfl, S', (Stp.quiet HB18.out).trans (S9.out.trans (Stp.quiet b10)), A9.out.after b10, o10.mono (Nat.le_trans HB18.out.size S9.out.b0.size), fun q hq hq2 => by have := (o10.o.lt q hq).1; have := A9.out.lt q hq2; omega⟩
            clear cW o10 b10
            go_wp2_with (fail)
            go_ret2
            rw [hYe.out]
            exact hfin.out
      · have hX : puM n R id K M B l q ss = (R, [], 110) := by
          unfold puM
          rw [if_pos ⟨hfit, hri⟩, if_neg hrg]
        rw [hX]
        rw [Bool.not_eq_true] at hrg
        have HRG := Lib.hid hrg
        clear hX hrg hri hfit
        obtain ⟨p, hp⟩ : ∃ p, w1.heap.size = p := ⟨_, rfl⟩
        rw [hp] at g0 g1 g2 g3 g4 BX
        go_enter Tryz.func13, Tryz.ntmps13
        go_wp2_with (fail)
        rw [show (((w1.alloc (.cells #[.pointer (some ⟨k, 0, none⟩)] 33)).alloc (.cells #[.int .i64 id] 3)).alloc (.cells #[.int .i64 K, .int .i64 M, .int .i64 B] 23)).alloc (.cells #[.int .i64 q, .slice sa ss.length sc] 30) = W0 from hW0.symm]
        clear hW0
        have HP := Lib.hid hp
        clear hp
        refine cF.mono ?_
        rintro e w2 ⟨rfl, b2⟩
        obtain ⟨⟨x1, x2⟩, ⟨y1, y2, y3⟩, z1, z2⟩ := BX.out w2 b2
        have cS := CS.out w2 (HB0.out.trans (b2.mono HB0.out.size))
        have cR := CR.out w2 (HB0.out.trans (b2.mono HB0.out.size))
        clear cF g0 g1 g2 g3 g4
        go_wp2_with (fail)
        refine cS.mono ?_
        rintro e w2' ⟨rfl, rfl⟩
        go_wp2_with (fail)
        refine cR.mono ?_
        rintro e w2' ⟨rfl, rfl⟩
        clear cS cR
        have cL := CL.out w2 (HB0.out.trans (b2.mono HB0.out.size))
        clear CL CR CS
        go_wp2_with (fail)
        refine cL.mono ?_
        rintro e w4 ⟨v4, rfl, o4, b4⟩
        clear x1 x2 y1 y2 y3 z1 z2 cL
        have hrg := HRG.out
        simp only [hrg, Bool.false_eq_true, if_false] at o4 ⊢
        obtain ⟨xa, xc, hf4⟩ := o4.reads.form
        rw [List.map_nil, List.length_nil] at hf4
        subst hf4
        have B14 := HB0.out.trans ((b2.trans (b4.mono b2.size)).mono HB0.out.size)
        have hfin : Hid (∀ o1 o2, EDoes w S w1 k n (R, [], 110) (.returned (.tuple #[.slice none 0 0, .int .i64 110])) ((w4.alloc o1).alloc o2)) := Lib.hid fun o1 o2 => edoes_no HA.out ((B14.alloc B14.size o1).alloc (Nat.le_trans B14.size (by simp)) o2) 110
        clear hrg o4 b4 b2 B14
        go_wp2_with (fail)
        go_ret2
        exact hfin.out _ _
    · have hX : puM n R id K M B l q ss = (R, [], 1) := by
        unfold puM
        rw [if_neg (fun h => hri h.2)]
      rw [hX]
      rw [Bool.not_eq_true] at hri
      rw [hri] at CR
      clear hX hri hfit
      obtain ⟨p, hp⟩ : ∃ p, w1.heap.size = p := ⟨_, rfl⟩
      rw [hp] at g0 g1 g2 g3 g4 BX
      go_enter Tryz.func13, Tryz.ntmps13
      go_wp2_with (fail)
      rw [show (((w1.alloc (.cells #[.pointer (some ⟨k, 0, none⟩)] 33)).alloc (.cells #[.int .i64 id] 3)).alloc (.cells #[.int .i64 K, .int .i64 M, .int .i64 B] 23)).alloc (.cells #[.int .i64 q, .slice sa ss.length sc] 30) = W0 from hW0.symm]
      clear hW0
      have HP := Lib.hid hp
      clear hp
      refine cF.mono ?_
      rintro e w2 ⟨rfl, b2⟩
      obtain ⟨⟨x1, x2⟩, ⟨y1, y2, y3⟩, z1, z2⟩ := BX.out w2 b2
      have cS := CS.out w2 (HB0.out.trans (b2.mono HB0.out.size))
      have cR := CR.out w2 (HB0.out.trans (b2.mono HB0.out.size))
      clear cF g0 g1 g2 g3 g4
      go_wp2_with (fail)
      refine cS.mono ?_
      rintro e w2' ⟨rfl, rfl⟩
      go_wp2_with (fail)
      refine cR.mono ?_
      rintro e w2' ⟨rfl, rfl⟩
      clear cS cR
      have hfin := Lib.hid (edoes_no HA.out (HB0.out.trans (b2.mono HB0.out.size)) 1)
      clear b2 x1 x2 y1 y2 y3 z1 z2
      go_wp2_with (fail)
      go_ret2
      exact hfin.out
  · have hX : puM n R id K M B l q ss = (R, [], 1) := by
      unfold puM
      rw [if_neg (fun h => hfit h.1)]
    rw [hX]
    rw [Bool.not_eq_true] at hfit
    rw [hfit] at cF
    clear hX hfit
    obtain ⟨p, hp⟩ : ∃ p, w1.heap.size = p := ⟨_, rfl⟩
    rw [hp] at g0 g1 g2 g3 g4 BX
    go_enter Tryz.func13, Tryz.ntmps13
    go_wp2_with (fail)
    rw [show (((w1.alloc (.cells #[.pointer (some ⟨k, 0, none⟩)] 33)).alloc (.cells #[.int .i64 id] 3)).alloc (.cells #[.int .i64 K, .int .i64 M, .int .i64 B] 23)).alloc (.cells #[.int .i64 q, .slice sa ss.length sc] 30) = W0 from hW0.symm]
    clear hW0 hp
    refine cF.mono ?_
    rintro e w2 ⟨rfl, b2⟩
    have hfin := Lib.hid (edoes_no HA.out (HB0.out.trans (b2.mono HB0.out.size)) 1)
    clear cF g0 g1 g2 g3 g4 b2
    go_wp2_with (fail)
    go_ret2
    exact hfin.out
end
end Go.Proofs.YtfadglcpapiklaaGreatDoor
