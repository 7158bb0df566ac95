/- trie: what changes a heap in memory; Put. -/
import Derived.Test.YtlbjfigdocbffaaTriNode
namespace Go.Proofs.Ytlbjfigdocbffaa
open Go.RowKit
set_option linter.unusedVariables false
set_option linter.unusedSimpArgs false

/-- Of what was there, only blocks g and m were turned. -/
structure HTo (w : World) (g m : Nat) (w' : World) : Prop where
  b0 : Below 0 w w'
  oth : ∀ k, k < w.heap.size → k ≠ g → k ≠ m → w'.heap[k]? = w.heap[k]?
theorem HTo.refl (w : World) (g m : Nat) : HTo w g m w := ⟨Below.refl _ _, fun _ _ _ _ => rfl⟩
theorem HTo.size {w w' : World} {g m : Nat} (h : HTo w g m w') : w.heap.size ≤ w'.heap.size := h.b0.size
theorem HTo.trans {w w1 w2 : World} {g m : Nat} (h : HTo w g m w1) (k : HTo w1 g m w2) : HTo w g m w2 :=
  ⟨h.b0.trans k.b0, fun i h1 h2 h3 => (k.oth i (Nat.lt_of_lt_of_le h1 h.b0.size) h2 h3).trans (h.oth i h1 h2 h3)⟩
theorem HTo.quiet {w w' : World} {g m : Nat} (h : Below w.heap.size w w') : HTo w g m w' := ⟨h.mono (Nat.zero_le _), fun k hk _ _ => h.block k hk⟩
theorem HTo.tab {w w' : World} {g m n : Nat} {C : Nat → Nat} (h : TabTo w g n C w') : HTo w g m w' := ⟨h.keep 0 (Nat.zero_le _) (Nat.zero_le _), fun k h1 h2 _ => h.oth k h1 h2⟩
theorem HTo.map {w w' : World} {g m : Nat} (h : w.mapTurned w' m) : HTo w g m w' :=
  ⟨⟨h.grown.os, h.grown.tape, h.grown.output, h.grown.size, fun k hk => absurd hk (Nat.not_lt_zero _)⟩, fun k h1 _ h3 => h.grown.block k h1 (by simpa using h3)⟩
theorem HTo.below {w w' : World} {g m B : Nat} (h : HTo w g m w') (hg : B ≤ g) (hm : B ≤ m) (hB : B ≤ w.heap.size) : Below B w w' :=
  ⟨h.b0.os, h.b0.tape, h.b0.output, h.b0.size, fun k hk => h.oth k (by omega) (by omega) (by omega)⟩
theorem cell_of_heap {w w' : World} {b : Nat} (h : w'.heap[b]? = w.heap[b]?) (o : Nat) : w'.cell? ⟨b, o, none⟩ = w.cell? ⟨b, o, none⟩ := by simp only [World.cell?, h]
theorem Reads.same {w w' : World} {v : Value} {xs : List Value} (h : Reads w v xs) (hs : w.heap.size ≤ w'.heap.size) (hb : ∀ k, v.ownBlock = some k → w'.heap[k]? = w.heap[k]?) : Reads w' v xs := by
  rcases h with h | ⟨b, off, cap, h1, h2, h3⟩
  · exact .inl h
  · refine .inr ⟨b, off, cap, h1, Nat.lt_of_lt_of_le h2 hs, fun i hi => ?_⟩
    have := hb b (by rw [h1]; rfl)
    rw [← h3 i hi]; simp only [World.cell?, this]
section
variable {w w' : World} {h g m n : Nat} {u : Value} {C C' : Nat → Nat} {Z : Int → Bool} {F : Int → Value} {X : Nat → ByteArray}
theorem HpAt.blk (H : HpAt w h g m n u C Z F X) (k : Nat) (hk : u.ownBlock = some k) (h0 : 0 < n) : k < w.heap.size := by
  rcases H.s with ⟨_, h2⟩ | ⟨b, off, cap, h1, h2, h3⟩
  · have := congrArg List.length h2
    simp at this; omega
  · rw [h1] at hk
    have : b = k := by injection hk
    omega
/-- The table was turned. -/
theorem HpAt.tab (H : HpAt w h g m n u C Z F X) (T : TabTo w g n C' w') (hS : Small n C') : HpAt w' h g m n u C' Z F X :=
  ⟨(T.oth h H.lt H.hg).trans H.b, T.t, H.p.heap (T.oth m H.p.lt H.gm.symm), H.s.same T.sz (fun k hk => T.oth k (H.blk k hk (by have := hS.n8; omega)) (H.sb k hk).1), H.sb, hS, H.hg, H.hm, H.gm, H.f, H.z, H.k, H.x⟩
def updX (X : Nat → ByteArray) (i : Nat) (s : ByteArray) : Nat → ByteArray := fun j => if j = i then s else X j
/-- A block was put. -/
theorem HpAt.put (H : HpAt w h g m n u C Z F X) (i : Nat) (hi : i < n) (s : ByteArray) (hs : s.size = 120) (ht : w.mapTurned w' m) (hm : MapZ w' Try.prog 3 m (n + 1) (updZ Z i true) (updZ F i (.agg (tcL s).toArray)) (.agg (tcL zero120).toArray)) :
    HpAt w' h g m n u C (updZ Z i true) (updZ F i (.agg (tcL s).toArray)) (updX X i s) := by
  have T := HTo.map (g := m) ht
  have ho : ∀ k, k < w.heap.size → k ≠ m → w'.heap[k]? = w.heap[k]? := fun k h1 h2 => T.oth k h1 h2 h2
  refine ⟨(ho h H.lt H.hm).trans H.b, H.t.heap (ho g H.t.lt H.gm), hm.tight Try.underlying3 n fun z hz hz2 => ?_, H.s.same T.size (fun k hk => ho k (H.blk k hk (by omega)) (H.sb k hk).2), H.sb, H.sm, H.hg, H.hm, H.gm, fun j hj => ?_, fun j hj hz => ?_, fun z hz hz2 => ?_, fun j => ?_⟩
  · by_cases e : z = (i : Int)
    · subst e; omega
    · rw [updZ_other _ _ _ _ e] at hz2; exact H.k z hz hz2
  · by_cases e : j = i
    · subst e; rw [updZ_same, updX, if_pos rfl]
    · rw [updZ_other _ _ _ _ (by omega), updX, if_neg e]; exact H.f j hj
  · by_cases e : j = i
    · subst e; rw [updZ_same] at hz; cases hz
    · rw [updZ_other _ _ _ _ (by omega)] at hz; rw [updX, if_neg e]; exact H.z j hj hz
  · by_cases e : z = (i : Int)
    · subst e; omega
    · rw [updZ_other _ _ _ _ e] at hz2; exact H.k z hz hz2
  · unfold updX; split
    · exact hs
    · exact H.x j
end
/-- A heap, whatever its map's elements are. -/
def Hp (w : World) (h g m n : Nat) (u : Value) (C : Nat → Nat) (Z : Int → Bool) (X : Nat → ByteArray) : Prop := ∃ F, HpAt w h g m n u C Z F X
/-- A call's value, and what the heap is then. -/
def HpG (w : World) (h g m n : Nat) (u : Value) (C : Nat → Nat) (Z : Int → Bool) (X : Nat → ByteArray) (v : Value) (e : Ending) (w' : World) : Prop :=
  e = .returned v ∧ HTo w g m w' ∧ Hp w' h g m n u C Z X
section
variable {w w' : World} {h g m n : Nat} {u : Value} {C : Nat → Nat} {Z : Int → Bool} {F : Int → Value} {X : Nat → ByteArray}
theorem MRow.tc {w : World} {b K : Nat} {s : ByteArray} (h : MRow w b K s.data.toList) (hs : s.size = 120) : (Instr.loadAt 80 (.pointer (some ⟨b, 0, none⟩))).run Try.prog w = .ok (.agg (tcL s).toArray) w :=
  tc_load s fun j hj => by
    have hl : s.data.toList.length = 120 := by rw [← hs]; exact Array.length_toList
    rw [Nat.zero_add, h.cell (by omega), tcL_get s j hj]; rfl
set_option maxRecDepth 100000 in
set_option maxHeartbeats 2000000 in
/-- Put. -/
theorem put_good (H : HpAt w h g m n u C Z F X) (i : Nat) (h3 : 3 ≤ i) (hi : i < n) (hc : 0 < C i) (s : ByteArray) (hs : s.size = 120) :
    Calls Try.prog 22 #[.pointer (some ⟨h, 0, none⟩), .int .i64 (i : Int), .string s] w (HpG w h g m n u C (updZ Z i true) (updX X i s) (.int .i64 0)) := by
  have hn := H.sm.n200
  have hI := in64_nat i (by omega)
  have ch := lent_any H i
  have e1 : cntdB n C i = true := by
    unfold cntdB cntV
    rw [if_pos ⟨by omega, by omega⟩]
    apply decide_eq_true
    exact ⟨by omega, by simpa using hc⟩
  rw [e1] at ch
  have c2 := H.c2
  have hd := H.drew
  obtain ⟨cap0, w1, K, hcv, hM, hb1, hsz1⟩ := MRow.make_run w.drew s
  rw [hs] at hcv
  have H1 := hd.below hb1
  have har : ∀ W, (Instr.arrayAt 80 (.slice (some ⟨w.drew.heap.size, 0, none⟩) 120 cap0)).run Try.prog W = .ok (.pointer (some ⟨w.drew.heap.size, 0, none⟩)) W := fun W => run_arrayAt _ 80 _ 120 _ 120 cap0 tc_under (Nat.le_refl _)
  have hld := hM.tc hs
  obtain ⟨w4, hup, hm4, ht4⟩ := H1.p.store Try.underlying3 (t := 78) Try.underlying78 (by unfold maxLen; omega) hI (.agg (tcL s).toArray)
  have hfin : Hid (HTo w g m w4 ∧ Hp w4 h g m n u C (updZ Z i true) (updX X i s)) := Lib.hid ⟨((HTo.quiet ⟨rfl, rfl, rfl, Nat.le_refl _, fun _ _ => rfl⟩ : HTo w g m w.drew).trans (HTo.quiet hb1)).trans (HTo.map ht4), _, H1.put i hi s hs ht4 hm4⟩
  have s0 : w.drew.cell? ⟨h, 2, none⟩ = some (.map (some m)) := hd.c2
  have s1 : w1.cell? ⟨h, 2, none⟩ = some (.map (some m)) := H1.c2
  have s4 : w4.cell? ⟨h, 2, none⟩ = some (.map (some m)) := by
    rw [← s1]; exact cell_of_heap ((HTo.map (g := m) ht4).oth h H1.lt H1.hm H1.hm) 2
  have t1 : ((s.size : Int) != 120) = false := by rw [hs]; rfl
  have t2 : ((s.size : Int) == 120) = true := by rw [hs]; rfl
  obtain ⟨g0, hg0⟩ : ∃ g0, w.drew.heap.size = g0 := ⟨_, rfl⟩
  rw [hg0] at hcv har hld
  clear hM hb1 hsz1 H1 hd H ht4 hm4 hI hn e1 hg0 h3 hi hc c2
  generalize tcL s = cs at *
  go_enter Try.func22, Try.ntmps22
  go_wp2_with (fail)
  refine ch.mono ?_
  rintro e w' ⟨rfl, rfl⟩
  go_wp2_with (fail)
  refine wp_region_held_drew (S := fun W => W.cell? ⟨h, 2, none⟩ = some (.map (some m))) (by kernel_rfl) s0 (fun hHeld => ?_)
  refine wpAnyH_takeD (i := 0) (some 16) rfl (by kernel_rfl) (by kernel_rfl) (by kernel_rfl) rfl (fun _ _ _ h => h) (Or.inl ⟨by rfl, by intro w hSw; go_simp; try rfl⟩) (by assumption) ?_
  simp only [Act.put, List.setIfInBounds_toArray, List.set_cons_zero, List.set_cons_succ]
  refine wpAnyH_takeD (i := 1) (some 17) rfl (by kernel_rfl) (by kernel_rfl) (by kernel_rfl) rfl (fun _ _ _ h => h) (Or.inl ⟨by rfl, by intro w hSw; go_simp; try rfl⟩) (by assumption) ?_
  simp only [Act.put, List.setIfInBounds_toArray, List.set_cons_zero, List.set_cons_succ]
  refine wpAnyH_takeD (i := 2) (some 18) rfl (by kernel_rfl) (by kernel_rfl) (by kernel_rfl) rfl (fun _ _ _ h => h) (Or.inl ⟨by rfl, by intro w hSw; go_simp; try rfl⟩) (by assumption) ?_
  simp only [Act.put, List.setIfInBounds_toArray, List.set_cons_zero, List.set_cons_succ]
  refine wpAnyH_takeD (i := 3) (some 19) rfl (by kernel_rfl) (by kernel_rfl) (by kernel_rfl) rfl (fun _ _ _ h => h) (Or.inl ⟨by rfl, by intro w hSw; go_simp; try rfl⟩) (by assumption) ?_
  simp only [Act.put, List.setIfInBounds_toArray, List.set_cons_zero, List.set_cons_succ]
  refine wpAnyH_takeD (i := 4) (some 20) rfl (by kernel_rfl) (by kernel_rfl) (by kernel_rfl) rfl (fun _ _ _ h => h) (Or.inl ⟨by rfl, by intro w hSw; go_simp; try rfl⟩) (by assumption) ?_
  simp only [Act.put, List.setIfInBounds_toArray, List.set_cons_zero, List.set_cons_succ]
  refine wpAnyH_takeD (i := 5) (some 21) rfl (by kernel_rfl) (by kernel_rfl) (by kernel_rfl) rfl (fun _ _ _ h => h) (Or.inl ⟨by rfl, by intro w hSw; go_simp; try rfl⟩) (by assumption) ?_
  simp only [Act.put, List.setIfInBounds_toArray, List.set_cons_zero, List.set_cons_succ]
  refine wpAnyH_ready (rs := [6]) (by kernel_rfl) (by simp) ?_
  refine AllReadyH.cons rfl (fun K hK => ?_) ?_
  · refine step_convert_run (d := some 22) hcv _ rfl rfl rfl rfl ?_
    refine hK.out _ _ s1 (fun hHeld => ?_)
    clear hK
    simp only [Act.put, List.setIfInBounds_toArray, List.set_cons_zero, List.set_cons_succ]
    refine wpAnyH_ready (rs := [7]) (by kernel_rfl) (by simp) ?_
    refine AllReadyH.cons rfl (fun K hK => ?_) ?_
    · refine step_array_run (d := some 23) (har _) _ rfl rfl rfl rfl ?_
      refine hK.out _ _ s1 (fun hHeld => ?_)
      clear hK
      simp only [Act.put, List.setIfInBounds_toArray, List.set_cons_zero, List.set_cons_succ]
      refine wpAnyH_ready (rs := [8]) (by kernel_rfl) (by simp) ?_
      refine AllReadyH.cons rfl (fun K hK => ?_) ?_
      · refine step_load_run (d := some 24) hld _ rfl rfl rfl rfl ?_
        refine hK.out _ _ s1 (fun hHeld => ?_)
        clear hK
        simp only [Act.put, List.setIfInBounds_toArray, List.set_cons_zero, List.set_cons_succ]
        refine wpAnyH_ready (rs := [9]) (by kernel_rfl) (by simp) ?_
        refine AllReadyH.cons rfl (fun K hK => ?_) ?_
        · refine step_update_run (d := none) hup _ _ _ rfl rfl rfl rfl rfl rfl ?_
          refine hK.out _ _ s4 (fun hHeld => ?_)
          clear hK
          simp only [Act.put, List.setIfInBounds_toArray, List.set_cons_zero, List.set_cons_succ]
          refine wpAnyH_done (by kernel_rfl) ?_ _
          go_wp2_with (fail)
          go_ret
          exact ⟨rfl, hfin.out.1, hfin.out.2⟩
        exact AllReadyH.nil
      exact AllReadyH.nil
    exact AllReadyH.nil
  exact AllReadyH.nil
end
end Go.Proofs.Ytlbjfigdocbffaa
