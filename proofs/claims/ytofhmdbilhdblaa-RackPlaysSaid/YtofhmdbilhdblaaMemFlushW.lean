/- member: Flush, the walk. -/
import Derived.Test.YtofhmdbilhdblaaMemFlush
namespace Go.Proofs.Ytofhmdbilhdblaa
open Go.RowKit
set_option linter.unusedVariables false
set_option linter.unusedSimpArgs false
set_option maxRecDepth 100000

def MapSays (D : DataW Value) (V : Int → List ByteArray) (F : Int → Value) : Prop := ∀ z, In64 z → Maps.has D (kz z) = zOf V z ∧ D.atKey (kz z) (.held nilS) = .held (F z)
theorem flL_same (L : List ByteArray) (V : Int → List ByteArray) (d : Int → Bool) (h : ∀ i : Nat, i < L.length → V (i : Int) ≠ [] → d (i : Int) = true) : flL L V d = flush L V := by
  unfold flush flL
  apply List.map_congr_left
  intro i hi
  have hi := List.mem_range.1 hi
  by_cases e : V (i : Int) = []
  · rw [e, lastOf_nil]; simp
  · rw [h i hi e]
/-- The step of one key. -/
theorem PBox.flStep {w : World} {S : Nat → Prop} {m g bp cap : Nat} {L : List ByteArray} {V : Int → List ByteArray} {F : Int → Value} (d : Int → Bool) (h : PBox w S m g bp cap false (flL L V d) V F) (n : Nat) (hnl : n < L.length) (hVx : V n ≠ []) (hvn : ∀ z, (V z).length ≤ 1000000000000) :
    ∃ (gg cv k : Nat) (cs : List Value) (wz : World), F n = .slice (some ⟨gg, 0, none⟩) (k + 1) cv ∧ k ≤ 1000000000000 ∧ cs.length = 128 ∧
      (∀ W, (Builtin.len_ #[71] 3 #[.slice (some ⟨gg, 0, none⟩) (k + 1) cv]).run Try.prog W = .ok (.int .i64 ((k : Int) + 1)) W) ∧
      w.drew.cell? ⟨m, 1, none⟩ = some (.slice (some ⟨g, 0, none⟩) L.length cap) ∧
      (Instr.loadAt 80 (.pointer (some ⟨gg, k * 128, none⟩))).run Try.prog w.drew = .ok (.agg cs.toArray) w.drew ∧
      (Instr.storeAt 80 (.pointer (some ⟨g, n * 128, none⟩)) (.agg cs.toArray)).run Try.prog w.drew = .ok () wz ∧
      wz.cell? ⟨m, 1, none⟩ = some (.slice (some ⟨g, 0, none⟩) L.length cap) ∧
      (Instr.loadAt 80 (.pointer (some ⟨gg, k * 128, none⟩))).run Try.prog wz = .ok (.agg cs.toArray) wz ∧
      PBox wz S m g bp cap false (flL L V (updZ d n true)) V F ∧ Stp S S w wz ∧ w.grownBy wz (some g) := by
  have hn2 := h.n2
  rw [flL_len] at hn2
  have hI := in64_nat n (by omega)
  obtain ⟨q, hq⟩ : ∃ q, (V n).length = q + 1 := ⟨(V n).length - 1, by have := List.length_pos_iff.2 hVx; omega⟩
  have hql : q < (V n).length := by omega
  have hqn : q ≤ 1000000000000 := by have := hvn n; omega
  obtain ⟨gg, cv, hF, _, _⟩ := (h.r n hI).form (by omega)
  have hrow := h.r n hI
  rw [hF] at hrow
  rw [hq] at hrow hF
  have hBd := h.drew
  have hld : ∀ W, PBox W S m g bp cap false (flL L V d) V F → (Instr.loadAt 80 (.pointer (some ⟨gg, q * 128, none⟩))).run Try.prog W = .ok (.agg (contL (V n)[q]).toArray) W := fun W hW => by
    have := hW.r n hI
    rw [hF] at this
    exact row_load (v := F n) this hql
  obtain ⟨hst, hB3, hS3⟩ := hBd.setL n (by rw [flL_len]; exact hnl) (V n)[q] (hBd.zv n _ (List.getElem_mem hql))
  have hset : (flL L V d).set n (V n)[q] = flL L V (updZ d n true) := flL_set L V d _ n hnl _ (by rw [lastOf_get _ _ hVx (by omega)]; congr 1; omega) (updZ_same _ _ _) (fun i hi _ => updZ_other _ _ _ _ (by omega))
  rw [hset] at hB3
  obtain ⟨k1, k2, k3, k4, k5⟩ := setCells_step g (contL (V n)[q]) (n * 128) w.drew
  refine ⟨gg, cv, q, contL (V n)[q], w.drew.setCells g (n * 128) (contL (V n)[q]), hF, hqn, contL_len _, fun W => ?_, ?_, hld _ hBd, hst, ?_, ?_, hB3, ⟨⟨hS3.b0.os, hS3.b0.tape, hS3.b0.output, hS3.b0.size, hS3.b0.block⟩, hS3.oth, hS3.grow⟩, ⟨k1, k2, k3, Nat.le_of_eq k4.symm, fun k _ hne => k5 k (fun e => hne (by rw [e]))⟩⟩
  · have := hrow.reads.len_run (P := Try.prog) Try.underlying71 3 W
    rw [hq] at this; exact this
  · have := hBd.c1; rw [flL_len] at this; exact this
  · have := hB3.c1; rw [flL_len] at this; exact this
  · have := hB3.r n hI
    rw [hF] at this
    exact row_load (v := F n) this hql
set_option maxRecDepth 100000 in
set_option maxHeartbeats 4000000 in
theorem flush_any {w : World} {S : Nat → Prop} {m g bp cap : Nat} {L : List ByteArray} {V : Int → List ByteArray} {F : Int → Value} (h : PBox w S m g bp cap false L V F) (hvn : ∀ z, (V z).length ≤ 1000000000000) :
    Calls Try.prog 13 #[.pointer (some ⟨m, 0, none⟩)] w fun e w' => e = .returned (.int .i64 0) ∧ Stp S S w w' ∧ PBox w' S m g bp cap false (flush L V) noV noF := by
  have c0 := h.c0
  have c2 := h.c2
  obtain ⟨D, hown, hD⟩ := h.p
  replace hD : MapSays D V F := hD
  have hLn := h.n2
  go_enter Try.func13, Try.ntmps13
  go_wp2_with (first
    | (at_range; refine wpList_range_own _ rfl _ 72 rfl 3 71 (Maps.int_keyed Try.underlying3) Try.underlying72 _ bp L.length D rfl hown ?_; intro w0 hrg0 hg0 hs0)
    | go_in)
  go_frame
  have hB0 : PBox w0 S m g bp cap false L V F := h.heap (fun k hk => hg0.block k (h.lt k hk) (by simp)) hg0.size
  have hSt0 : Stp S S w w0 := ⟨⟨hg0.os, hg0.tape, hg0.output, hg0.size, fun k hk => absurd hk (Nat.not_lt_zero _)⟩, fun k hk _ => hg0.block k hk (by simp), fun k hk => .inl hk⟩
  have hrS : ¬ S w.heap.size := fun hs => by have := h.lt _ hs; omega
  clear hown c0 c2 h hg0 hs0
  go_loopw [3] (fun _ wr => ∃ (left : Lit → Bool) (cnt : Nat) (d : Int → Bool), wr.ranges Try.prog 3 RV bp w.heap.size L.length D left cnt ∧ (∀ z, In64 z → zOf V z = true → left (kz z) = !(d z)) ∧ PBox wr S m g bp cap false (flL L V d) V F ∧ Stp S S w wr)
    (fun _ wr => wr.rangeLeft bp w.heap.size)
  case atStart => exact ⟨_, _, fun _ => false, hrg0, fun z hz hv => by rw [(hD z hz).1, hv]; rfl, by rw [flL_none _ _ _ (fun _ _ => rfl)]; exact hB0, hSt0⟩
  case round =>
    clear hB0 hSt0 hrg0
    obtain ⟨left, cnt, d, hrg, hleft, hB, hSt⟩ := hrel
    go_wp2_with (first
      | (at_next; refine wpList_next_ranges _ rfl _ rfl 3 (Maps.int_keyed Try.underlying3) RV (Value.int .i64) id (fun key kl hk => by obtain ⟨x, hx, _⟩ := Maps.keyOf_int_inv Try.underlying3 hk; exact ⟨x, hx⟩) (fun v _ _ => ⟨v, rfl⟩) bp w.heap.size L.length _ _ _ rfl hrg ?_ ?_)
      | go_in)
    · intro hc0 hl0
      have hfl : flL L V d = flush L V := flL_same L V d (fun i hi hv => by
        have := hleft i (in64_nat i (by omega)) (by unfold zOf; cases hq : V (i : Int) with
          | nil => exact absurd hq hv
          | cons a b => rfl)
        rw [hl0] at this
        cases hd : d (i : Int) with
        | true => rfl
        | false => rw [hd] at this; simp at this)
      obtain ⟨w', hcl, hB2, hS2⟩ := hB.clear 0
      have c2 := hB.c2
      rw [hfl] at hB2
      have hfin : Hid (Stp S S w w' ∧ PBox w' S m g bp cap false (flush L V) noV noF) := Lib.hid ⟨hSt.trans hS2, hB2⟩
      clear hB hB2 hS2 hSt hl0 hrg hleft hfl
      go_wp2_with (fail)
      go_ret
      exact ⟨rfl, hfin.out⟩
    · intro x c kl yd yp w2 cnt2 hkey hlk hv hat hrg2 hlt hg2 hs2 hen
      obtain ⟨x', ex, rfl, hwx⟩ := Maps.keyOf_int_inv Try.underlying3 hkey
      obtain rfl : x = x' := by injection ex
      have hxI : In64 x := hwx
      have hfx : Maps.has D (kz x) = true := Maps.has_true_of_atKey hat
      rw [(hD x hxI).1] at hfx
      have hVx : V x ≠ [] := fun e => by unfold zOf at hfx; rw [e] at hfx; simp at hfx
      obtain ⟨hx0, hxn⟩ := hB.keys x hxI hVx
      rw [flL_len] at hxn
      have hyc : yd = .held c := by
        have : some (yd, yp) = some (.held c, []) := hv.symm
        injection this with this
        injection this with this _
      have hFx : F x = c := by
        have := (hD x hxI).2
        rw [show D.atKey (kz x) (.held nilS) = yd from hat _, hyc] at this
        injection this with this; exact this.symm
      obtain ⟨n, hn⟩ : ∃ n : Nat, x = (n : Int) := ⟨x.toNat, (Int.toNat_of_nonneg hx0).symm⟩
      subst hn
      have hnl : n < L.length := by omega
      have hB2 : PBox w2 S m g bp cap false (flL L V d) V F := hB.heap (fun k hk => hg2.block k (hB.lt k hk) (by intro e; injection e with e; exact hrS (by rw [← e]; exact hk))) hg2.size
      have hSt2 : Stp S S w w2 := ⟨⟨hg2.os.trans hSt.b0.os, hg2.tape.trans hSt.b0.tape, hg2.output.trans hSt.b0.output, Nat.le_trans hSt.b0.size hg2.size, fun k hk => absurd hk (Nat.not_lt_zero _)⟩,
        fun k hk hn => (hg2.block k (Nat.lt_of_lt_of_le hk hSt.b0.size) (by simp; omega)).trans (hSt.oth k hk hn), fun k hk => .inl hk⟩
      obtain ⟨gg, cv, k, cs, wz, hF, hkq, hcl, hlenr, c1d, hld0, hst, c12, hld3, hB3, hS3, hgw⟩ := hB2.flStep d n hnl hVx hvn
      rw [hF] at hFx
      subst hFx
      have hrg3 := hrg2.kept hgw (by have := hB.gp; simp; omega) (by intro e; injection e with e; exact hrS (by rw [e]; exact hB.sg))
      have hleft3 : ∀ z, In64 z → zOf V z = true → (left (kz z) && !(kz z).sameKey (kz n)) = !(updZ d n true z) := fun z hz hv => by
        by_cases e : z = (n : Int)
        · subst e
          rw [updZ_same, WideAt.sameKey_self (isKey_kz Try.underlying3 hz)]; simp
        · rw [updZ_other _ _ _ _ e, Maps.sameKey_ne (kz_ne e), hleft z hz hv]; simp
      have hSt3 : Stp S S w wz := hSt2.trans hS3
      have hmeas : wz.rangeLeft bp w.heap.size < wr.rangeLeft bp w.heap.size := by rw [hrg3.left_eq, hrg.left_eq]; exact hlt
      have hfin := Lib.hid (And.intro hrg3 (And.intro hleft3 (And.intro hB3 hSt3)))
      have x1 : (n : Int) < (L.length : Int) := by omega
      have x4 : IntKind.i64.wrap (k : Int) = (k : Int) := wrap_in (by omega) (by omega)
      have x5 : (0 : Int) ≤ (k : Int) := by omega
      have x6 : (k : Int) < (k : Int) + 1 := by omega
      have hmH := Lib.hid hmeas
      clear hmeas hrg3 hleft3 hB3 hSt3 hgw hS3 hF hB2 hSt2 hB hSt hrg hrg2 hleft hlk hv hat hyc hfx hVx hkey hs2 hg2 hlt hwx hxI hx0 hxn hvn
      go_wp2_with (fail)
      refine wp_region_held_drew (S := fun W => W.cell? ⟨m, 1, none⟩ = some (.slice (some ⟨g, 0, none⟩) L.length cap) ∧ (Instr.loadAt 80 (.pointer (some ⟨gg, k * 128, none⟩))).run Try.prog W = .ok (.agg cs.toArray) W) (by kernel_rfl) ⟨c1d, hld0⟩ (fun hHeld => ?_)
      refine wpAnyH_takeD (i := 0) (some 19) rfl (by kernel_rfl) (by kernel_rfl) (by kernel_rfl) rfl (fun _ _ _ h => h) (Or.inl ⟨by rfl, by intro w hSw; go_simp; try rfl⟩) (by assumption) ?_
      simp only [Act.put, List.setIfInBounds_toArray, List.set_cons_zero, List.set_cons_succ]
      refine wpAnyH_takeD (i := 1) (some 20) rfl (by kernel_rfl) (by kernel_rfl) (by kernel_rfl) rfl (fun _ _ _ h => h) (Or.inl ⟨by rfl, by intro w hSw; go_simp; try rfl⟩) (by assumption) ?_
      simp only [Act.put, List.setIfInBounds_toArray, List.set_cons_zero, List.set_cons_succ]
      refine wpAnyH_takeD (i := 2) (some 21) rfl (by kernel_rfl) (by kernel_rfl) (by kernel_rfl) rfl (fun _ _ _ h => h) (Or.inl ⟨by rfl, by intro w hSw; go_simp; try rfl⟩) (by assumption) ?_
      simp only [Act.put, List.setIfInBounds_toArray, List.set_cons_zero, List.set_cons_succ]
      refine wpAnyH_takeD (i := 3) (some 22) rfl (by kernel_rfl) (by kernel_rfl) (by kernel_rfl) rfl (fun _ _ _ h => h) (Or.inl ⟨by rfl, by intro w hSw; replace hSw := hSw.1; go_simp; try rfl⟩) (by assumption) ?_
      simp only [Act.put, List.setIfInBounds_toArray, List.set_cons_zero, List.set_cons_succ]
      refine wpAnyH_takeD (i := 4) (some 23) rfl (by kernel_rfl) (by kernel_rfl) (by kernel_rfl) rfl (fun _ _ _ h => h) (Or.inl ⟨by rfl, by intro w hSw; go_simp; try rfl⟩) (by assumption) ?_
      simp only [Act.put, List.setIfInBounds_toArray, List.set_cons_zero, List.set_cons_succ]
      refine wpAnyH_takeD (i := 5) (some 24) rfl (by kernel_rfl) (by kernel_rfl) (by kernel_rfl) rfl (fun _ _ _ h => h) (Or.inl ⟨by rfl, by intro w hSw; go_simp; try rfl⟩) (by assumption) ?_
      simp only [Act.put, List.setIfInBounds_toArray, List.set_cons_zero, List.set_cons_succ]
      refine wpAnyH_takeD (i := 6) (some 25) rfl (by kernel_rfl) (by kernel_rfl) (by kernel_rfl) rfl (fun _ _ _ h => h) (Or.inl ⟨by rfl, by intro w hSw; go_simp; try rfl⟩) (by assumption) ?_
      simp only [Act.put, List.setIfInBounds_toArray, List.set_cons_zero, List.set_cons_succ]
      refine wpAnyH_takeD (i := 7) (some 26) rfl (by kernel_rfl) (by kernel_rfl) (by kernel_rfl) rfl (fun _ _ _ h => h) (Or.inl ⟨by rfl, by intro w hSw; go_simp; try rfl⟩) (by assumption) ?_
      simp only [Act.put, List.setIfInBounds_toArray, List.set_cons_zero, List.set_cons_succ]
      refine wpAnyH_takeD (i := 8) (some 27) rfl (by kernel_rfl) (by kernel_rfl) (by kernel_rfl) rfl (fun _ _ _ h => h) (Or.inl ⟨by rfl, by intro w hSw; go_simp; try rfl⟩) (by assumption) ?_
      simp only [Act.put, List.setIfInBounds_toArray, List.set_cons_zero, List.set_cons_succ]
      refine wpAnyH_takeD (i := 9) (some 28) rfl (by kernel_rfl) (by kernel_rfl) (by kernel_rfl) rfl (fun _ _ _ h => h) (Or.inl ⟨by rfl, by intro w hSw; go_simp; try rfl⟩) (by assumption) ?_
      simp only [Act.put, List.setIfInBounds_toArray, List.set_cons_zero, List.set_cons_succ]
      refine wpAnyH_takeD (i := 10) (some 29) rfl (by kernel_rfl) (by kernel_rfl) (by kernel_rfl) rfl (fun _ _ _ h => h) (yieldsIf_load_run (by rfl) _ rfl rfl (fun w hS => hS.2)) (by assumption) ?_
      simp only [Act.put, List.setIfInBounds_toArray, List.set_cons_zero, List.set_cons_succ]
      refine wpAnyH_takeD (i := 11) (some 30) rfl (by kernel_rfl) (by kernel_rfl) (by kernel_rfl) rfl (fun _ _ _ h => h) (Or.inl ⟨by rfl, by intro w hSw; go_simp; try rfl⟩) (by assumption) ?_
      simp only [Act.put, List.setIfInBounds_toArray, List.set_cons_zero, List.set_cons_succ]
      refine wpAnyH_ready (rs := [12]) (by kernel_rfl) (by simp) (AllReadyH.cons rfl (fun K hK => ?_) AllReadyH.nil)
      refine step_store_run (d := none) hst _ _ rfl rfl rfl rfl rfl ?_
      refine hK.out _ _ ⟨c12, hld3⟩ (fun hHeld => ?_)
      clear hK
      simp only [Act.put, List.setIfInBounds_toArray, List.set_cons_zero, List.set_cons_succ]
      refine wpAnyH_done (by kernel_rfl) ?_ _
      go_wp2_with (fail)
      go_roundw
      case rel => exact ⟨_, _, _, hfin.out.1, hfin.out.2.1, hfin.out.2.2.1, hfin.out.2.2.2⟩
      case measure => exact hmH.out
end Go.Proofs.Ytofhmdbilhdblaa

