/- rs: Decode. -/
import Derived.Test.YtcmnojflllcdfaaDoorRsMath
namespace Go.Proofs.YtcmnojflllcdfaaDoor
open Go.RowKit
set_option linter.unusedVariables false
set_option linter.unusedSimpArgs false

theorem Reads.form {w : World} {v : Value} {xs : List Value} (h : Reads w v xs) : ∃ a c, v = .slice a xs.length c := by
  rcases h with ⟨rfl, rfl⟩ | ⟨b, off, cap, rfl, _⟩
  · exact ⟨none, 0, rfl⟩
  · exact ⟨_, _, rfl⟩
theorem Own.capOk {w : World} {B : Nat} {E : TypeId} {v : Value} {xs : List Value} (h : Own w B E v xs) : capOk v := by
  rcases h.o.2 with ⟨rfl, _⟩ | ⟨g, cap, cur, rfl, _, _, h4, _⟩
  · exact Nat.le_refl _
  · exact h4
def decB (m : Int) (shards : List ByteArray) (hv : List Bool) : Bool := fits8 m && fits8 ((shards.length : Int) - m) && (hv.length == shards.length)
def decK (m : Int) (shards : List ByteArray) : Nat := ((shards.length : Int) - m).toNat
def decI (m : Int) (shards : List ByteArray) (hv : List Bool) : List Nat := (idxL hv).take (decK m shards)
def decO (m : Int) (shards : List ByteArray) (hv : List Bool) : Bool := decB m shards hv && alikeL (chL (idxL hv) shards)
def decL (m : Int) (shards : List ByteArray) (hv : List Bool) : List ByteArray :=
  if decO m shards hv && decide (decK m shards ≤ (idxL hv).length) then mulL (invL (chL (decI m shards hv) (genL (decK m shards) m.toNat))) (chL (decI m shards hv) shards) else []
def decE (m : Int) (shards : List ByteArray) (hv : List Bool) : Int := if decO m shards hv then (if decK m shards ≤ (idxL hv).length then 0 else 31) else 30
theorem idxL_lt (h : List Bool) : ∀ x ∈ idxL h, x < h.length := fun x hx => by
  simp [idxL, idxTo] at hx; exact hx.1
theorem idxL_nodup (h : List Bool) : (idxL h).Nodup := List.Pairwise.filter _ List.nodup_range
theorem decB_facts {m : Int} {shards : List ByteArray} {hv : List Bool} (h : decB m shards hv = true) : 1 ≤ m ∧ m ≤ 8 ∧ 1 ≤ decK m shards ∧ decK m shards ≤ 8 ∧ hv.length = shards.length ∧ shards.length = decK m shards + m.toNat := by
  unfold decB at h
  simp only [Bool.and_eq_true, fits8, decide_eq_true_eq, beq_iff_eq] at h
  unfold decK
  omega
theorem dec_rect {m : Int} {shards : List ByteArray} {hv : List Bool} (h : decO m shards hv = true) (hk : decK m shards ≤ (idxL hv).length) :
    (decI m shards hv).length = decK m shards ∧ (decI m shards hv).Nodup ∧ (∀ x ∈ decI m shards hv, x < decK m shards + m.toNat) ∧ ∃ L, 1 ≤ L ∧ L ≤ 4096 ∧ Rect (chL (decI m shards hv) shards) (decK m shards) L := by
  unfold decO at h
  rw [Bool.and_eq_true] at h
  obtain ⟨h1, h2⟩ := h
  obtain ⟨f1, f2, f3, f4, f5, f6⟩ := decB_facts h1
  have hl : (decI m shards hv).length = decK m shards := by rw [decI, List.length_take]; omega
  refine ⟨hl, (idxL_nodup hv).sublist (List.take_sublist _ _), fun x hx => ?_, ?_⟩
  · have := idxL_lt hv x (List.mem_of_mem_take hx); omega
  · have hal := alike_facts h2
    have h0 := hal 0 (by rw [chL_length]; omega)
    refine ⟨((chL (idxL hv) shards).getD 0 ⟨#[]⟩).size, h0.2.1, h0.2.2, by rw [chL_length, hl], fun a ha => ?_⟩
    have h3 := (hal a (by rw [chL_length]; omega)).1
    rw [chL_get _ _ (by omega)] at h3
    have e : (decI m shards hv).getD a 0 = (idxL hv).getD a 0 := by
      rw [decI, List.getD_eq_getElem?_getD, List.getElem?_take, if_pos ha, ← List.getD_eq_getElem?_getD]
    rw [chL_get _ _ (by omega), e, h3]
theorem dec_bad (w : World) (m : Int) (shards : List ByteArray) (hv : List Bool) (h : Hid (decO m shards hv = false)) (W : World) (hb : Below w.heap.size w W) : GivesL w (decL m shards hv) (decE m shards hv) (.returned (.tuple #[.slice none 0 0, .int .i64 30])) W :=
  ⟨.slice none 0 0, by rw [decE, h.out]; rfl, by rw [decL, h.out]; exact Own.nil _ _ _, hb⟩
set_option maxRecDepth 100000 in
set_option maxHeartbeats 2000000 in
theorem decode_form (m : Int) (vs vh : Value) (shards : List ByteArray) (hv : List Bool) (w : World) (hS : Reads w vs (tx shards)) (hH : Reads w vh (bv hv)) (hn : shards.length ≤ 1000000) (hh : hv.length ≤ 140737488355328) (h : decB m shards hv = false) :
    Calls Tryd.prog 19 #[.int .i64 m, vs, vh] w (GivesL w (decL m shards hv) (decE m shards hv)) := by
  have hz : Hid (decO m shards hv = false) := Lib.hid (by rw [decO, h]; rfl)
  have ls := fun W => hS.len_run (P := Tryd.prog) Tryd.underlying22 3 W
  have lh := fun W => hH.len_run (P := Tryd.prog) Tryd.underlying30 3 W
  rw [List.length_map] at ls
  rw [bv_length] at lh
  have c1 := fun W => rsfits_any m W
  have c2 := fun W => rsfits_any ((shards.length : Int) - m) W
  cases h1 : fits8 m with
  | false =>
    rw [h1] at c1
    clear h1 h
    go_enter Tryd.func19, Tryd.ntmps19
    go_wp2_with (fail)
    refine (c1 _).mono ?_
    rintro e wq ⟨rfl, rfl⟩
    go_wp2_with (fail)
    go_ret2
    exact dec_bad w m shards hv hz _ (Below.refl _ _)
  | true =>
    have hm : 1 ≤ m ∧ m ≤ 8 := by simpa [fits8] using h1
    obtain ⟨hm1, hm2⟩ := hm
    cases h2 : fits8 ((shards.length : Int) - m) with
    | false =>
      rw [h1] at c1
      rw [h2] at c2
      clear h1 h2 h
      go_enter Tryd.func19, Tryd.ntmps19
      go_wp2_with (fail)
      refine (c1 _).mono ?_
      rintro e wq ⟨rfl, rfl⟩
      go_wp2_with (fail)
      refine (c2 _).mono ?_
      rintro e wq ⟨rfl, rfl⟩
      go_wp2_with (fail)
      go_ret2
      exact dec_bad w m shards hv hz _ (Below.refl _ _)
    | true =>
      have e3 : (((hv.length : Nat) : Int) != ((shards.length : Nat) : Int)) = true := by
        rw [decB, h1, h2] at h
        simp at h
        rw [bne_iff_ne]; omega
      rw [h1] at c1
      rw [h2] at c2
      clear h1 h2 h
      go_enter Tryd.func19, Tryd.ntmps19
      go_wp2_with (fail)
      refine (c1 _).mono ?_
      rintro e wq ⟨rfl, rfl⟩
      go_wp2_with (fail)
      refine (c2 _).mono ?_
      rintro e wq ⟨rfl, rfl⟩
      go_wp2_with (fail)
      go_ret2
      exact dec_bad w m shards hv hz _ (Below.refl _ _)
set_option maxRecDepth 100000 in
set_option maxHeartbeats 4000000 in
theorem decode_right (M : Nat) (vs vh : Value) (shards : List ByteArray) (hv : List Bool) (w : World) (ht : Tabs w) (hS : Reads w vs (tx shards)) (hH : Reads w vh (bv hv)) (fs : Fits shards) (h : decB (M : Int) shards hv = true) :
    Calls Tryd.prog 19 #[.int .i64 (M : Int), vs, vh] w (GivesL w (decL (M : Int) shards hv) (decE (M : Int) shards hv)) := by
  obtain ⟨i1, hi1, hy0, hy1, hy2⟩ := info_parts Tryd.infoI
  obtain ⟨f1, f2, f3, f4, f5, f6⟩ := decB_facts h
  rw [show ((M : Int)).toNat = M by omega] at f6
  have ls := fun W => hS.len_run (P := Tryd.prog) Tryd.underlying22 3 W
  have lh := fun W => hH.len_run (P := Tryd.prog) Tryd.underlying30 3 W
  rw [List.length_map] at ls
  rw [bv_length, f5] at lh
  have c1 := fun W => rsfits_any (M : Int) W
  have h' := h
  unfold decB at h'
  simp only [Bool.and_eq_true] at h'
  rw [h'.1.1] at c1
  have ci := indexes_any vh hv w hH (by omega)
  have hidx := idxL_lt hv
  have hlen : (idxL hv).length ≤ hv.length := idxTo_len hv hv.length
  have hO : decO (M : Int) shards hv = alikeL (chL (idxL hv) shards) := by rw [decO, h]; rfl
  obtain ⟨k, hk⟩ : ∃ k, decK (M : Int) shards = k := ⟨_, rfl⟩
  have c2 := fun W => rsfits_any (k : Int) W
  rw [show fits8 (k : Int) = true by simp [fits8]; omega] at c2
  have hK : (shards.length : Int) - (M : Int) = (k : Int) := by omega
  have hz : Hid (decO (M : Int) shards hv = alikeL (chL (idxL hv) shards)) := Lib.hid hO
  have hLz : Hid (alikeL (chL (idxL hv) shards) = true → k ≤ (idxL hv).length → decL (M : Int) shards hv = mulL (invL (chL ((idxL hv).take k) (genL k M))) (chL ((idxL hv).take k) shards) ∧ invE (chL ((idxL hv).take k) (genL k M)) = 0 ∧ mulE (invL (chL ((idxL hv).take k) (genL k M))) (chL ((idxL hv).take k) shards) = 0 ∧ Fits (chL ((idxL hv).take k) (genL k M)) ∧ Fits (invL (chL ((idxL hv).take k) (genL k M))) ∧ Fits (chL ((idxL hv).take k) shards)) := Lib.hid (fun ha hkl => by
    have hO2 : decO (M : Int) shards hv = true := by rw [hO]; exact ha
    obtain ⟨g1, g2, g3, L, g4, g5, g6⟩ := dec_rect hO2 (by omega)
    have hI : decI (M : Int) shards hv = (idxL hv).take k := by rw [decI, hk]
    rw [hI, hk] at g1 g6
    rw [hI] at g2 g3
    rw [hk, show ((M : Int)).toNat = M by omega] at g3
    have hG := chL_rect (genL_rect k M) g3 g1
    have e0 := gen_inv (m := M) (by omega) (by omega) (by omega) g1 g2 g3
    rcases inv_cases hG (by omega) (by omega) with ⟨_, rI, _⟩ | ⟨e, _⟩
    · have ok := mulOk_of rI g6 (by omega) (by omega) (by omega) (by omega) g4 g5
      refine ⟨?_, e0, by rw [mulE, if_pos ok], hG.fits (by omega) (by omega), rI.fits (by omega) (by omega), g6.fits (by omega) (by omega)⟩
      rw [decL, hO2, hI, hk, show ((M : Int)).toNat = M by omega, decide_eq_true (show k ≤ (idxL hv).length from hkl)]; rfl
    · rw [e0] at e; cases e)
  have hEz : Hid (decE (M : Int) shards hv = if alikeL (chL (idxL hv) shards) then (if k ≤ (idxL hv).length then 0 else 31) else 30) := Lib.hid (by rw [decE, hO, hk])
  have hLf : Hid (alikeL (chL (idxL hv) shards) = true → ¬ k ≤ (idxL hv).length → decL (M : Int) shards hv = []) := Lib.hid (fun ha hkl => by
    rw [decL, hO, ha, hk, decide_eq_false hkl]; rfl)
  have fch : Hid (Fits (chL (idxL hv) shards)) := Lib.hid ⟨by rw [chL_length]; omega, fun i hi => by
    rw [chL_length] at hi
    rw [chL_get _ _ hi]
    exact fs.m _ (by have := getD_lt hidx hi; omega)⟩
  have f6' := Lib.hid f6
  have f5' := Lib.hid f5
  have hM8 : M ≤ 8 := by omega
  have hM1 : 1 ≤ M := by omega
  have hs16 : shards.length ≤ 16 := by omega
  rw [hk] at f3 f4
  have hidx' : Hid (∀ x ∈ idxL hv, x < shards.length) := Lib.hid (fun x hx => by rw [← f5]; exact hidx x hx)
  have hlen' : (idxL hv).length ≤ 16 := by omega
  clear h h' hO hk hidx hlen f1 f2 f5 f6
  generalize idxL hv = r at *
  go_enter Tryd.func19, Tryd.ntmps19
  go_wp2_with (fail)
  refine (c1 _).mono ?_
  rintro e wq ⟨rfl, rfl⟩
  go_wp2_with (fail)
  refine (c2 _).mono ?_
  rintro e wq ⟨rfl, rfl⟩
  go_wp2_with (fail)
  refine ci.mono ?_
  rintro e w1 ⟨pv, rfl, o1, b1⟩
  obtain ⟨pa, pc, hpv⟩ := o1.reads.form
  have hcap := o1.capOk
  rw [nv_length] at hpv
  subst hpv
  have bA := (Below.refl w1.heap.size w1).alloc (Nat.le_refl _) (.cells #[.slice pa r.length pc] 33)
  have bA' : Below w.heap.size w (w1.alloc (.cells #[.slice pa r.length pc] 33)) := below_c b1 bA
  have hch := choose_any vs (.slice pa r.length pc) ⟨w1.heap.size, 0, none⟩ shards r (w1.alloc (.cells #[.slice pa r.length pc] 33)) (by rw [World.cell?_alloc_mark]; rfl) (by simp) (o1.reads.below bA) (hS.below bA') hidx'.out (by omega) (by omega)
  go_wp2_with (fail)
  refine hch.mono ?_
  rintro e w2 ⟨v2, rfl, o2, b2⟩
  have hg2 : w1.heap.size < w2.heap.size := Nat.lt_of_lt_of_le (by simp) b2.size
  have cp2 : w2.cell? ⟨w1.heap.size, 0, none⟩ = some (.slice pa r.length pc) := by
    rw [b2.cell (p := ⟨w1.heap.size, 0, none⟩) (by simp), World.cell?_alloc_mark]; rfl
  have fp2 : w2.frozen? ⟨w1.heap.size, 0, none⟩ = false := by
    rw [b2.frozen (p := ⟨w1.heap.size, 0, none⟩) (by simp)]; exact frozen_of_row _ _ _ _ _ (heap_alloc_new _ _)
  have hal := alike_any v2 (chL r shards) w2 o2.reads fch.out
  have bw2 : Below w.heap.size w w2 := bA'.trans (b2.mono bA'.size)
  have bwp : Below w1.heap.size w1 w2 := bA.trans (b2.mono (by simp))
  go_wp2_with (fail)
  cases ha : alikeL (chL r shards) with
  | false =>
    rw [ha] at hal
    have hzz := hz.out
    rw [ha] at hzz
    have hz' := Lib.hid hzz
    clear hzz ha hEz hLz hLf hz
    refine hal.mono ?_
    rintro e wq ⟨rfl, rfl⟩
    go_wp2_with (fail)
    go_ret2
    exact dec_bad w (M : Int) shards hv hz' _ bw2
  | true =>
    rw [ha] at hal
    have hE2 := hEz.out
    rw [ha, if_pos rfl] at hE2
    by_cases hkl : k ≤ r.length
    · obtain ⟨q1, q2, q3, q4, q5, q6⟩ := hLz.out ha hkl
      rw [if_pos hkl] at hE2
      have hE3 := Lib.hid hE2
      have hL3 := Lib.hid q1
      have e1 : decide (r.length < k) = false := by rw [decide_eq_false_iff_not]; omega
      obtain ⟨gp, cp, hpa, hgp1, hgp2⟩ := o1.form (by rw [nv_length]; omega)
      simp only [Value.slice.injEq] at hpa
      obtain ⟨rfl, _, rfl⟩ := hpa
      have hkc : k ≤ pc := by
        have h5 : r.length ≤ pc := hcap
        omega
      have hkc' : (k : Int) ≤ (pc : Int) := by omega
      have hpc0 : ¬ pc = 0 := by omega
      have hT : ∀ x ∈ r.take k, x < shards.length := fun x hx => hidx'.out x (List.mem_of_mem_take hx)
      have hT2 : ∀ x ∈ r.take k, x < (genL k M).length := fun x hx => by rw [genL_length]; have := hT x hx; omega
      have hTl : (r.take k).length ≤ 1000 := by rw [List.length_take]; omega
      have hT' := Lib.hid hT
      have hT2' := Lib.hid hT2
      have t2 : Tabs w2 := ht.below bw2 ht.two
      have hw2 : 2 ≤ w1.heap.size := (ht.below b1 ht.two).two
      have b3 : Below w1.heap.size w2 (w2.setCell ⟨w1.heap.size, 0, none⟩ (.slice (some ⟨gp, 0, none⟩) k pc)) := (Below.refl w1.heap.size w2).setCell (p := ⟨w1.heap.size, 0, none⟩) (Nat.le_refl _) _
      have t3 : Tabs (w2.setCell ⟨w1.heap.size, 0, none⟩ (.slice (some ⟨gp, 0, none⟩) k pc)) := t2.below b3 hw2
      have hgn := generator_any k M _ t3 f3 f4 hM1 hM8
      have hinv := fun W hW v hv => inverse_any v (chL (r.take k) (genL k M)) W hW hv q4
      have hmul := fun W hW va vb ha hb => mxmul_any va vb (invL (chL (r.take k) (genL k M))) (chL (r.take k) shards) W hW ha hb q5 q6
      rw [q2] at hinv
      rw [q3, ← q1] at hmul
      -- the reads that a store into the captured variable leaves
      have rS : Reads (w2.setCell ⟨w1.heap.size, 0, none⟩ (.slice (some ⟨gp, 0, none⟩) k pc)) vs (tx shards) := hS.below (bw2.trans (b3.mono b1.size))
      have rP : Reads (w2.setCell ⟨w1.heap.size, 0, none⟩ (.slice (some ⟨gp, 0, none⟩) k pc)) (.slice (some ⟨gp, 0, none⟩) k pc) (nv (r.take k)) := by
        have hold := (o1.after bwp)
        refine .inr ⟨gp, 0, pc, by rw [nv_length, List.length_take, Nat.min_eq_left hkl], Nat.lt_of_lt_of_le hgp2 (bwp.trans b3).size, fun i hi => ?_⟩
        rw [nv_length, List.length_take, Nat.min_eq_left hkl] at hi
        rw [b3.cell (p := ⟨gp, 0 + i, none⟩) hgp2, Nat.zero_add, hold.cell (by rw [nv_length]; omega), nv_getD r (by omega), nv_getD _ (by rw [List.length_take]; omega)]
        rw [List.getD_eq_getElem?_getD, List.getD_eq_getElem?_getD, List.getElem?_take, if_pos hi]
      have cP : (w2.setCell ⟨w1.heap.size, 0, none⟩ (.slice (some ⟨gp, 0, none⟩) k pc)).cell? ⟨w1.heap.size, 0, none⟩ = some (.slice (some ⟨gp, 0, none⟩) k pc) := World.cell?_setCell_same w2 _ _ cp2
      have hg3 : w1.heap.size < (w2.setCell ⟨w1.heap.size, 0, none⟩ (.slice (some ⟨gp, 0, none⟩) k pc)).heap.size := by simpa using hg2
      have bw3 : Below w.heap.size w (w2.setCell ⟨w1.heap.size, 0, none⟩ (.slice (some ⟨gp, 0, none⟩) k pc)) := bw2.trans (b3.mono b1.size)
      have hE4 : Hid (decE (M : Int) shards hv = 0) := hE3
      clear hE2 q1 q2 q3 hLz hLf hEz hz ha hT hT2
      refine hal.mono ?_
      rintro e wq ⟨rfl, rfl⟩
      go_wp2_with (fail)
      refine hgn.mono ?_
      rintro e w4 ⟨v4, rfl, o4, b4⟩
      have cP4 : w4.cell? ⟨w1.heap.size, 0, none⟩ = some (.slice (some ⟨gp, 0, none⟩) k pc) := by rw [b4.cell (p := ⟨w1.heap.size, 0, none⟩) hg3]; exact cP
      have rP4 := rP.below b4
      have rS4 := rS.below b4
      have t4 := t3.below b4 t3.two
      have hch4 := choose_any v4 (.slice (some ⟨gp, 0, none⟩) k pc) ⟨w1.heap.size, 0, none⟩ (genL k M) (r.take k) w4 cP4 (Nat.lt_of_lt_of_le hg3 b4.size) rP4 o4.reads hT2'.out hTl (by rw [genL_length]; omega)
      go_wp2_with (fail)
      refine hch4.mono ?_
      rintro e w5 ⟨v5, rfl, o5, b5⟩
      have t5 := t4.below b5 t4.two
      go_wp2_with (fail)
      refine (hinv _ t5 _ o5.reads).mono ?_
      rintro e w6 ⟨v6, rfl, o6, b6⟩
      have b56 := below_c b5 b6
      have cP6 : w6.cell? ⟨w1.heap.size, 0, none⟩ = some (.slice (some ⟨gp, 0, none⟩) k pc) := by rw [b56.cell (p := ⟨w1.heap.size, 0, none⟩) (Nat.lt_of_lt_of_le hg3 b4.size)]; exact cP4
      have t6 := t5.below b6 t5.two
      have hch6 := choose_any vs (.slice (some ⟨gp, 0, none⟩) k pc) ⟨w1.heap.size, 0, none⟩ shards (r.take k) w6 cP6 (Nat.lt_of_lt_of_le hg3 (Nat.le_trans b4.size b56.size)) (rP4.below b56) (rS4.below b56) hT'.out hTl (by omega)
      go_wp2_with (fail)
      refine hch6.mono ?_
      rintro e w7 ⟨v7, rfl, o7, b7⟩
      have t7 := t6.below b7 t6.two
      go_wp2_with (fail)
      refine (hmul _ t7 _ _ (o6.reads.below b7) o7.reads).mono ?_
      rintro e w8 ⟨v8, rfl, o8, b8⟩
      have bw7 : Below w.heap.size w w7 := below_c (below_c (below_c bw3 b4) b56) b7
      go_wp2_with (fail)
      go_ret2
      exact ⟨v8, by rw [hE4.out]; rfl, o8.mono bw7.size, below_c bw7 b8⟩
    · have e1 : decide (r.length < k) = true := by rw [decide_eq_true_eq]; omega
      rw [if_neg hkl] at hE2
      have hE3 := Lib.hid hE2
      have hL3 := Lib.hid (hLf.out ha hkl)
      clear hE2 hLz hLf hEz hz ha hkl
      refine hal.mono ?_
      rintro e wq ⟨rfl, rfl⟩
      go_wp2_with (fail)
      go_ret2
      exact ⟨.slice none 0 0, by rw [hE3.out]; rfl, by rw [hL3.out]; exact Own.nil _ _ _, bw2⟩
theorem decode_any (m : Int) (vs vh : Value) (shards : List ByteArray) (hv : List Bool) (w : World) (ht : Tabs w) (hS : Reads w vs (tx shards)) (hH : Reads w vh (bv hv)) (fs : Fits shards) (hn : shards.length ≤ 1000000) (hh : hv.length ≤ 140737488355328) :
    Calls Tryd.prog 19 #[.int .i64 m, vs, vh] w (GivesL w (decL m shards hv) (decE m shards hv)) := by
  by_cases h : decB m shards hv = true
  · obtain ⟨f1, _⟩ := decB_facts h
    obtain ⟨M, rfl⟩ := Int.eq_ofNat_of_zero_le (show 0 ≤ m by omega)
    exact decode_right M vs vh shards hv w ht hS hH fs h
  · exact decode_form m vs vh shards hv w hS hH hn hh (by simpa using h)
end Go.Proofs.YtcmnojflllcdfaaDoor
