/- member: Write. -/
import Derived.Test.YtofhmdbilhdblaaMemWr
namespace Go.Proofs.Ytofhmdbilhdblaa
open Go.RowKit
set_option linter.unusedVariables false
set_option linter.unusedSimpArgs false

/-- What was written: other blocks stay, and what the member holds is as told. -/
def PutsM (w : World) (S : Nat → Prop) (m g bp cap : Nat) (fd : Bool) (L : List ByteArray) (V : Int → List ByteArray) (u : Value) (e : Ending) (w' : World) : Prop :=
  e = .returned u ∧ ∃ S' F', Stp S S' w w' ∧ PBox w' S' m g bp cap fd L V F'
theorem MRow.content {w : World} {b C : Nat} {s : ByteArray} (h : MRow w b C s.data.toList) (hs : s.size = 128) : (Instr.loadAt 80 (.pointer (some ⟨b, 0, none⟩))).run Try.prog w = .ok (.agg (contL s).toArray) w :=
  cont_load s fun j hj => by
    have hl : s.data.toList.length = 128 := by rw [← hs]; exact Array.length_toList
    rw [Nat.zero_add, h.cell (by omega), contL_get s j hj]; rfl
set_option maxRecDepth 100000 in
set_option maxHeartbeats 2000000 in
theorem write_any {w : World} {S : Nat → Prop} {m g bp cap : Nat} {L : List ByteArray} {V : Int → List ByteArray} {F : Int → Value} (h : PBox w S m g bp cap false L V F) (i : Nat) (hi : i < L.length) (s : ByteArray) (hs : s.size = 128) (hvn : (V i).length ≤ 1000000000000) :
    Calls Try.prog 10 #[.pointer (some ⟨m, 0, none⟩), .int .i64 (i : Int), .string s] w (PutsM w S m g bp cap false L (updZ V i (V i ++ [s])) (.int .i64 0)) := by
  have hn2 := h.n2
  have hI := in64_nat i (by omega)
  have hh : hasN L i = true := by unfold hasN; rw [decide_eq_true (by omega), decide_eq_true (by omega)]; rfl
  have c0 := h.c0
  have ch := has_any h i
  rw [hh] at ch
  have hd := h.drew
  have c2 := hd.c2
  have hlk := hd.look hI
  obtain ⟨cap0, w1, C, hcv, hM, hb1, hsz1⟩ := MRow.make_run w.drew s
  rw [hs] at hcv
  obtain ⟨g0, hg0⟩ : ∃ g0, w.drew.heap.size = g0 := ⟨_, rfl⟩
  have hg0' : w.heap.size = g0 := hg0
  rw [hg0] at hcv hM
  have h1 := hd.below hb1
  have har : ∀ W, (Instr.arrayAt 80 (.slice (some ⟨g0, 0, none⟩) 128 cap0)).run Try.prog W = .ok (.pointer (some ⟨g0, 0, none⟩)) W := fun W => run_arrayAt _ 80 _ 128 _ 128 cap0 cont_under (Nat.le_refl _)
  have hld := hM.content hs
  obtain ⟨ci, k1, k2, k3, k4⟩ := cont_is
  have hcs : (contL s).toArray.size = 128 := cont_size s
  have hbd := build_one (P := Try.prog) Try.underlying71 k1 k2 (contL s).toArray (by rw [k3, hcs]; rfl) (by show (contL zero128).toArray.size = _; rw [cont_size, hcs]) (by rw [hcs]; omega) (by rw [hcs]; omega) w1
  obtain ⟨v', w3, hap, ho, hb3, hk3, hv3⟩ := (h1.r i hI).push (P := Try.prog) (S := 71) Try.underlying71 k1 k2 k3 k4 (by show (contL zero128).toArray.size = _; rw [cont_size]; rfl) s (contL s).toArray (by rfl) (Nat.zero_le _) (by omega) (by omega)
  have hm3 : MapZ w3 Try.prog 3 bp L.length (zOf V) F nilS := h1.p.heap (hk3 bp (h1.lt bp h1.sp) (fun e => (h1.sr i hI bp e).2.2.2 rfl))
  obtain ⟨w4, hup, hm4, ht4⟩ := hm3.store Try.underlying3 (t := 72) Try.underlying72 (by unfold maxLen; omega) hI v'
  have hfin := Lib.hid (hd.grown i hi s hs v' hb1 ho hb3 hk3 hv3 hm4 ht4)
  have hS : ∀ W, PBox W S m g bp cap false L V F → W.cell? ⟨m, 2, none⟩ = some (.map (some bp)) ∧ (Instr.lookup 72 (.map (some bp)) (.int .i64 (i : Int)) false).run Try.prog W = .ok (F i) W := fun W hW => ⟨hW.c2, hW.look hI⟩
  have s0 := hS _ hd
  have s1 := hS _ h1
  have s2 := hS (w1.alloc (.cells (contL s).toArray 80)) (h1.below ((Below.refl _ _).alloc (Nat.le_refl _) _))
  have s3 : w3.cell? ⟨m, 2, none⟩ = some (.map (some bp)) := by
    rw [← h1.c2]; exact cell_of_heap (hk3 m (h1.lt m h1.sm) (fun e => (h1.sr i hI m e).2.1 rfl)) 2
  have s4 : w4.cell? ⟨m, 2, none⟩ = some (.map (some bp)) := by
    rw [← s3]; exact cell_of_heap (ht4.grown.block m (by have := hb3.size; have := h1.lt m h1.sm; omega) (by have := h1.mp; simpa using this)) 2
  clear hg0 hg0'
  have t1 : ((s.size : Int) != 128) = false := by rw [hs]; rfl
  have t2 : ((s.size : Int) == 128) = true := by rw [hs]; rfl
  clear hS hm3 hm4 ht4 ho hb3 hk3 hv3 k1 k2 k3 k4 hM hb1 hsz1 h1 hd hh hn2 hvn hi hI h hlk c2
  generalize contL s = cs at *
  generalize F i = v at *
  go_enter Try.func10, Try.ntmps10
  go_wp2_with (fail)
  refine ch.mono ?_
  rintro e w' ⟨rfl, rfl⟩
  go_wp2_with (fail)
  refine wp_region_held_drew (S := fun W => W.cell? ⟨m, 2, none⟩ = some (.map (some bp))) (by kernel_rfl) s0.1 (fun hHeld => ?_)
  refine wpAnyH_takeD (i := 0) (some 20) rfl (by kernel_rfl) (by kernel_rfl) (by kernel_rfl) rfl (fun _ _ _ h => h) (Or.inl ⟨by rfl, by intro w hSw; go_simp; try rfl⟩) (by assumption) ?_
  simp only [Act.put, List.setIfInBounds_toArray, List.set_cons_zero, List.set_cons_succ]
  refine wpAnyH_takeD (i := 1) (some 21) rfl (by kernel_rfl) (by kernel_rfl) (by kernel_rfl) rfl (fun _ _ _ h => h) (Or.inl ⟨by rfl, by intro w hSw; go_simp; try rfl⟩) (by assumption) ?_
  simp only [Act.put, List.setIfInBounds_toArray, List.set_cons_zero, List.set_cons_succ]
  refine wpAnyH_takeD (i := 2) (some 22) rfl (by kernel_rfl) (by kernel_rfl) (by kernel_rfl) rfl (fun _ _ _ h => h) (Or.inl ⟨by rfl, by intro w hSw; go_simp; try rfl⟩) (by assumption) ?_
  simp only [Act.put, List.setIfInBounds_toArray, List.set_cons_zero, List.set_cons_succ]
  refine wpAnyH_takeD (i := 3) (some 23) rfl (by kernel_rfl) (by kernel_rfl) (by kernel_rfl) rfl (fun _ _ _ h => h) (Or.inl ⟨by rfl, by intro w hSw; go_simp; try rfl⟩) (by assumption) ?_
  simp only [Act.put, List.setIfInBounds_toArray, List.set_cons_zero, List.set_cons_succ]
  refine wpAnyH_takeD (i := 4) (some 24) rfl (by kernel_rfl) (by kernel_rfl) (by kernel_rfl) rfl (fun _ _ _ h => h) (Or.inl ⟨by rfl, by intro w hSw; go_simp; try rfl⟩) (by assumption) ?_
  simp only [Act.put, List.setIfInBounds_toArray, List.set_cons_zero, List.set_cons_succ]
  refine wpAnyH_takeD (i := 5) (some 25) rfl (by kernel_rfl) (by kernel_rfl) (by kernel_rfl) rfl (fun _ _ _ h => h) (Or.inl ⟨by rfl, by intro w hSw; go_simp; try rfl⟩) (by assumption) ?_
  simp only [Act.put, List.setIfInBounds_toArray, List.set_cons_zero, List.set_cons_succ]
  refine wpAnyH_takeD (i := 6) (some 26) rfl (by kernel_rfl) (by kernel_rfl) (by kernel_rfl) rfl (fun _ _ _ h => h) (Or.inl ⟨by rfl, by intro w hSw; go_simp; try rfl⟩) (by assumption) ?_
  simp only [Act.put, List.setIfInBounds_toArray, List.set_cons_zero, List.set_cons_succ]
  refine wpAnyH_takeD (i := 7) (some 27) rfl (by kernel_rfl) (by kernel_rfl) (by kernel_rfl) rfl (fun _ _ _ h => h) (Or.inl ⟨by rfl, by intro w hSw; go_simp; try rfl⟩) (by assumption) ?_
  simp only [Act.put, List.setIfInBounds_toArray, List.set_cons_zero, List.set_cons_succ]
  refine wpAnyH_takeD (i := 8) (some 28) rfl (by kernel_rfl) (by kernel_rfl) (by kernel_rfl) rfl (fun _ _ _ h => h) (Or.inl ⟨by rfl, by intro w hSw; go_simp; try rfl⟩) (by assumption) ?_
  simp only [Act.put, List.setIfInBounds_toArray, List.set_cons_zero, List.set_cons_succ]
  refine wpAnyH_takeD (i := 9) (some 29) rfl (by kernel_rfl) (by kernel_rfl) (by kernel_rfl) rfl (fun _ _ _ h => h) (Or.inl ⟨by rfl, by intro w hSw; go_simp; try rfl⟩) (by assumption) ?_
  simp only [Act.put, List.setIfInBounds_toArray, List.set_cons_zero, List.set_cons_succ]
  refine wpAnyH_takeD (i := 11) (some 31) rfl (by kernel_rfl) (by kernel_rfl) (by kernel_rfl) rfl (fun _ _ _ h => h) (Or.inl ⟨by rfl, by intro w hSw; go_simp; try rfl⟩) (by assumption) ?_
  simp only [Act.put, List.setIfInBounds_toArray, List.set_cons_zero, List.set_cons_succ]
  refine wpAnyH_ready (rs := [10, 12]) (by kernel_rfl) (by simp) ?_
  refine AllReadyH.cons rfl (fun K hK => ?_) ?_
  · refine step_lookup_run (d := some 30) s0.2 _ _ rfl rfl rfl rfl rfl ?_
    refine hK.out _ _ s0.1 (fun hHeld => ?_)
    clear hK
    simp only [Act.put, List.setIfInBounds_toArray, List.set_cons_zero, List.set_cons_succ]
    refine wpAnyH_ready (rs := [12]) (by kernel_rfl) (by simp) ?_
    refine AllReadyH.cons rfl (fun K hK => ?_) ?_
    · refine step_convert_run (d := some 32) hcv _ rfl rfl rfl rfl ?_
      refine hK.out _ _ s1.1 (fun hHeld => ?_)
      clear hK
      simp only [Act.put, List.setIfInBounds_toArray, List.set_cons_zero, List.set_cons_succ]
      refine wpAnyH_ready (rs := [13]) (by kernel_rfl) (by simp) ?_
      refine AllReadyH.cons rfl (fun K hK => ?_) ?_
      · refine step_array_run (d := some 33) (har _) _ rfl rfl rfl rfl ?_
        refine hK.out _ _ s1.1 (fun hHeld => ?_)
        clear hK
        simp only [Act.put, List.setIfInBounds_toArray, List.set_cons_zero, List.set_cons_succ]
        refine wpAnyH_ready (rs := [14]) (by kernel_rfl) (by simp) ?_
        refine AllReadyH.cons rfl (fun K hK => ?_) ?_
        · refine step_load_run (d := some 34) hld _ rfl rfl rfl rfl ?_
          refine hK.out _ _ s1.1 (fun hHeld => ?_)
          clear hK
          simp only [Act.put, List.setIfInBounds_toArray, List.set_cons_zero, List.set_cons_succ]
          refine wpAnyH_ready (rs := [15]) (by kernel_rfl) (by simp) ?_
          refine AllReadyH.cons rfl (fun K hK => ?_) ?_
          · refine step_build_run (d := some 35) hbd _ rfl rfl rfl rfl ?_
            refine hK.out _ _ s2.1 (fun hHeld => ?_)
            clear hK
            simp only [Act.put, List.setIfInBounds_toArray, List.set_cons_zero, List.set_cons_succ]
            refine wpAnyH_ready (rs := [16]) (by kernel_rfl) (by simp) ?_
            refine AllReadyH.cons rfl (fun K hK => ?_) ?_
            · refine step_append_run (d := some 36) hap _ _ rfl rfl rfl rfl rfl rfl ?_
              refine hK.out _ _ s3 (fun hHeld => ?_)
              clear hK
              simp only [Act.put, List.setIfInBounds_toArray, List.set_cons_zero, List.set_cons_succ]
              refine wpAnyH_ready (rs := [17]) (by kernel_rfl) (by simp) ?_
              refine AllReadyH.cons rfl (fun K hK => ?_) ?_
              · refine step_update_run (d := none) hup _ _ _ rfl rfl rfl rfl rfl rfl ?_
                refine hK.out _ _ s4 (fun hHeld => ?_)
                clear hK
                simp only [Act.put, List.setIfInBounds_toArray, List.set_cons_zero, List.set_cons_succ]
                refine wpAnyH_done (by kernel_rfl) ?_ _
                go_wp2_with (fail)
                go_ret
                obtain ⟨S', x1, x2⟩ := hfin.out
                exact ⟨rfl, S', _, ⟨⟨x1.b0.os, x1.b0.tape, x1.b0.output, x1.b0.size, x1.b0.block⟩, x1.oth, x1.grow⟩, x2⟩
              exact AllReadyH.nil
            exact AllReadyH.nil
          exact AllReadyH.nil
        exact AllReadyH.nil
      exact AllReadyH.nil
    exact AllReadyH.nil
  refine AllReadyH.cons rfl (fun K hK => ?_) ?_
  · refine step_convert_run (d := some 32) hcv _ rfl rfl rfl rfl ?_
    refine hK.out _ _ s1.1 (fun hHeld => ?_)
    clear hK
    simp only [Act.put, List.setIfInBounds_toArray, List.set_cons_zero, List.set_cons_succ]
    refine wpAnyH_ready (rs := [10, 13]) (by kernel_rfl) (by simp) ?_
    refine AllReadyH.cons rfl (fun K hK => ?_) ?_
    · refine step_lookup_run (d := some 30) s1.2 _ _ rfl rfl rfl rfl rfl ?_
      refine hK.out _ _ s1.1 (fun hHeld => ?_)
      clear hK
      simp only [Act.put, List.setIfInBounds_toArray, List.set_cons_zero, List.set_cons_succ]
      refine wpAnyH_ready (rs := [13]) (by kernel_rfl) (by simp) ?_
      refine AllReadyH.cons rfl (fun K hK => ?_) ?_
      · refine step_array_run (d := some 33) (har _) _ rfl rfl rfl rfl ?_
        refine hK.out _ _ s1.1 (fun hHeld => ?_)
        clear hK
        simp only [Act.put, List.setIfInBounds_toArray, List.set_cons_zero, List.set_cons_succ]
        refine wpAnyH_ready (rs := [14]) (by kernel_rfl) (by simp) ?_
        refine AllReadyH.cons rfl (fun K hK => ?_) ?_
        · refine step_load_run (d := some 34) hld _ rfl rfl rfl rfl ?_
          refine hK.out _ _ s1.1 (fun hHeld => ?_)
          clear hK
          simp only [Act.put, List.setIfInBounds_toArray, List.set_cons_zero, List.set_cons_succ]
          refine wpAnyH_ready (rs := [15]) (by kernel_rfl) (by simp) ?_
          refine AllReadyH.cons rfl (fun K hK => ?_) ?_
          · refine step_build_run (d := some 35) hbd _ rfl rfl rfl rfl ?_
            refine hK.out _ _ s2.1 (fun hHeld => ?_)
            clear hK
            simp only [Act.put, List.setIfInBounds_toArray, List.set_cons_zero, List.set_cons_succ]
            refine wpAnyH_ready (rs := [16]) (by kernel_rfl) (by simp) ?_
            refine AllReadyH.cons rfl (fun K hK => ?_) ?_
            · refine step_append_run (d := some 36) hap _ _ rfl rfl rfl rfl rfl rfl ?_
              refine hK.out _ _ s3 (fun hHeld => ?_)
              clear hK
              simp only [Act.put, List.setIfInBounds_toArray, List.set_cons_zero, List.set_cons_succ]
              refine wpAnyH_ready (rs := [17]) (by kernel_rfl) (by simp) ?_
              refine AllReadyH.cons rfl (fun K hK => ?_) ?_
              · refine step_update_run (d := none) hup _ _ _ rfl rfl rfl rfl rfl rfl ?_
                refine hK.out _ _ s4 (fun hHeld => ?_)
                clear hK
                simp only [Act.put, List.setIfInBounds_toArray, List.set_cons_zero, List.set_cons_succ]
                refine wpAnyH_done (by kernel_rfl) ?_ _
                go_wp2_with (fail)
                go_ret
                obtain ⟨S', x1, x2⟩ := hfin.out
                exact ⟨rfl, S', _, ⟨⟨x1.b0.os, x1.b0.tape, x1.b0.output, x1.b0.size, x1.b0.block⟩, x1.oth, x1.grow⟩, x2⟩
              exact AllReadyH.nil
            exact AllReadyH.nil
          exact AllReadyH.nil
        exact AllReadyH.nil
      exact AllReadyH.nil
    refine AllReadyH.cons rfl (fun K hK => ?_) ?_
    · refine step_array_run (d := some 33) (har _) _ rfl rfl rfl rfl ?_
      refine hK.out _ _ s1.1 (fun hHeld => ?_)
      clear hK
      simp only [Act.put, List.setIfInBounds_toArray, List.set_cons_zero, List.set_cons_succ]
      refine wpAnyH_ready (rs := [10, 14]) (by kernel_rfl) (by simp) ?_
      refine AllReadyH.cons rfl (fun K hK => ?_) ?_
      · refine step_lookup_run (d := some 30) s1.2 _ _ rfl rfl rfl rfl rfl ?_
        refine hK.out _ _ s1.1 (fun hHeld => ?_)
        clear hK
        simp only [Act.put, List.setIfInBounds_toArray, List.set_cons_zero, List.set_cons_succ]
        refine wpAnyH_ready (rs := [14]) (by kernel_rfl) (by simp) ?_
        refine AllReadyH.cons rfl (fun K hK => ?_) ?_
        · refine step_load_run (d := some 34) hld _ rfl rfl rfl rfl ?_
          refine hK.out _ _ s1.1 (fun hHeld => ?_)
          clear hK
          simp only [Act.put, List.setIfInBounds_toArray, List.set_cons_zero, List.set_cons_succ]
          refine wpAnyH_ready (rs := [15]) (by kernel_rfl) (by simp) ?_
          refine AllReadyH.cons rfl (fun K hK => ?_) ?_
          · refine step_build_run (d := some 35) hbd _ rfl rfl rfl rfl ?_
            refine hK.out _ _ s2.1 (fun hHeld => ?_)
            clear hK
            simp only [Act.put, List.setIfInBounds_toArray, List.set_cons_zero, List.set_cons_succ]
            refine wpAnyH_ready (rs := [16]) (by kernel_rfl) (by simp) ?_
            refine AllReadyH.cons rfl (fun K hK => ?_) ?_
            · refine step_append_run (d := some 36) hap _ _ rfl rfl rfl rfl rfl rfl ?_
              refine hK.out _ _ s3 (fun hHeld => ?_)
              clear hK
              simp only [Act.put, List.setIfInBounds_toArray, List.set_cons_zero, List.set_cons_succ]
              refine wpAnyH_ready (rs := [17]) (by kernel_rfl) (by simp) ?_
              refine AllReadyH.cons rfl (fun K hK => ?_) ?_
              · refine step_update_run (d := none) hup _ _ _ rfl rfl rfl rfl rfl rfl ?_
                refine hK.out _ _ s4 (fun hHeld => ?_)
                clear hK
                simp only [Act.put, List.setIfInBounds_toArray, List.set_cons_zero, List.set_cons_succ]
                refine wpAnyH_done (by kernel_rfl) ?_ _
                go_wp2_with (fail)
                go_ret
                obtain ⟨S', x1, x2⟩ := hfin.out
                exact ⟨rfl, S', _, ⟨⟨x1.b0.os, x1.b0.tape, x1.b0.output, x1.b0.size, x1.b0.block⟩, x1.oth, x1.grow⟩, x2⟩
              exact AllReadyH.nil
            exact AllReadyH.nil
          exact AllReadyH.nil
        exact AllReadyH.nil
      refine AllReadyH.cons rfl (fun K hK => ?_) ?_
      · refine step_load_run (d := some 34) hld _ rfl rfl rfl rfl ?_
        refine hK.out _ _ s1.1 (fun hHeld => ?_)
        clear hK
        simp only [Act.put, List.setIfInBounds_toArray, List.set_cons_zero, List.set_cons_succ]
        refine wpAnyH_ready (rs := [10, 15]) (by kernel_rfl) (by simp) ?_
        refine AllReadyH.cons rfl (fun K hK => ?_) ?_
        · refine step_lookup_run (d := some 30) s1.2 _ _ rfl rfl rfl rfl rfl ?_
          refine hK.out _ _ s1.1 (fun hHeld => ?_)
          clear hK
          simp only [Act.put, List.setIfInBounds_toArray, List.set_cons_zero, List.set_cons_succ]
          refine wpAnyH_ready (rs := [15]) (by kernel_rfl) (by simp) ?_
          refine AllReadyH.cons rfl (fun K hK => ?_) ?_
          · refine step_build_run (d := some 35) hbd _ rfl rfl rfl rfl ?_
            refine hK.out _ _ s2.1 (fun hHeld => ?_)
            clear hK
            simp only [Act.put, List.setIfInBounds_toArray, List.set_cons_zero, List.set_cons_succ]
            refine wpAnyH_ready (rs := [16]) (by kernel_rfl) (by simp) ?_
            refine AllReadyH.cons rfl (fun K hK => ?_) ?_
            · refine step_append_run (d := some 36) hap _ _ rfl rfl rfl rfl rfl rfl ?_
              refine hK.out _ _ s3 (fun hHeld => ?_)
              clear hK
              simp only [Act.put, List.setIfInBounds_toArray, List.set_cons_zero, List.set_cons_succ]
              refine wpAnyH_ready (rs := [17]) (by kernel_rfl) (by simp) ?_
              refine AllReadyH.cons rfl (fun K hK => ?_) ?_
              · refine step_update_run (d := none) hup _ _ _ rfl rfl rfl rfl rfl rfl ?_
                refine hK.out _ _ s4 (fun hHeld => ?_)
                clear hK
                simp only [Act.put, List.setIfInBounds_toArray, List.set_cons_zero, List.set_cons_succ]
                refine wpAnyH_done (by kernel_rfl) ?_ _
                go_wp2_with (fail)
                go_ret
                obtain ⟨S', x1, x2⟩ := hfin.out
                exact ⟨rfl, S', _, ⟨⟨x1.b0.os, x1.b0.tape, x1.b0.output, x1.b0.size, x1.b0.block⟩, x1.oth, x1.grow⟩, x2⟩
              exact AllReadyH.nil
            exact AllReadyH.nil
          exact AllReadyH.nil
        refine AllReadyH.cons rfl (fun K hK => ?_) ?_
        · refine step_build_run (d := some 35) hbd _ rfl rfl rfl rfl ?_
          refine hK.out _ _ s2.1 (fun hHeld => ?_)
          clear hK
          simp only [Act.put, List.setIfInBounds_toArray, List.set_cons_zero, List.set_cons_succ]
          refine wpAnyH_ready (rs := [10]) (by kernel_rfl) (by simp) ?_
          refine AllReadyH.cons rfl (fun K hK => ?_) ?_
          · refine step_lookup_run (d := some 30) s2.2 _ _ rfl rfl rfl rfl rfl ?_
            refine hK.out _ _ s2.1 (fun hHeld => ?_)
            clear hK
            simp only [Act.put, List.setIfInBounds_toArray, List.set_cons_zero, List.set_cons_succ]
            refine wpAnyH_ready (rs := [16]) (by kernel_rfl) (by simp) ?_
            refine AllReadyH.cons rfl (fun K hK => ?_) ?_
            · refine step_append_run (d := some 36) hap _ _ rfl rfl rfl rfl rfl rfl ?_
              refine hK.out _ _ s3 (fun hHeld => ?_)
              clear hK
              simp only [Act.put, List.setIfInBounds_toArray, List.set_cons_zero, List.set_cons_succ]
              refine wpAnyH_ready (rs := [17]) (by kernel_rfl) (by simp) ?_
              refine AllReadyH.cons rfl (fun K hK => ?_) ?_
              · refine step_update_run (d := none) hup _ _ _ rfl rfl rfl rfl rfl rfl ?_
                refine hK.out _ _ s4 (fun hHeld => ?_)
                clear hK
                simp only [Act.put, List.setIfInBounds_toArray, List.set_cons_zero, List.set_cons_succ]
                refine wpAnyH_done (by kernel_rfl) ?_ _
                go_wp2_with (fail)
                go_ret
                obtain ⟨S', x1, x2⟩ := hfin.out
                exact ⟨rfl, S', _, ⟨⟨x1.b0.os, x1.b0.tape, x1.b0.output, x1.b0.size, x1.b0.block⟩, x1.oth, x1.grow⟩, x2⟩
              exact AllReadyH.nil
            exact AllReadyH.nil
          exact AllReadyH.nil
        exact AllReadyH.nil
      exact AllReadyH.nil
    exact AllReadyH.nil
  exact AllReadyH.nil
end Go.Proofs.Ytofhmdbilhdblaa

