/- the document's member: Crash. -/
import Derived.Test.YtofhmdbilhdblaaMemQ4
namespace Go.Proofs.Ytofhmdbilhdblaa
open Go.RowKit
set_option linter.unusedVariables false
set_option linter.unusedSimpArgs false
set_option maxRecDepth 100000

def clrV (V : Int → List ByteArray) (P : List Int) (k : Nat) : Int → List ByteArray := fun z => if z ∈ P.take k then [] else V z
theorem clrV_zero (V : Int → List ByteArray) (P : List Int) : clrV V P 0 = V := by funext z; unfold clrV; rw [if_neg (by simp)]
theorem clrV_step (V : Int → List ByteArray) (P : List Int) (k : Nat) (hk : k < P.length) (z : Int) (hz : P[k] = z) : updZ (clrV V P k) z [] = clrV V P (k + 1) := by
  funext y
  unfold clrV updZ
  rw [List.take_succ_eq_append_getElem hk, hz]
  by_cases e : y = z
  · subst e; rw [if_pos rfl, if_pos (by simp)]
  · rw [if_neg e]
    dsimp only
    by_cases e2 : y ∈ P.take k
    · rw [if_pos e2, if_pos (List.mem_append_left _ e2)]
    · rw [if_neg e2, if_neg (by simp only [List.mem_append, List.mem_singleton]; exact fun x => x.elim e2 e)]
theorem clrV_at (V : Int → List ByteArray) (P : List Int) (k : Nat) (hk : k < P.length) (z : Int) (hz : P[k] = z) (hp : P.Pairwise (fun x y => x < y)) : clrV V P k z = V z := by
  unfold clrV
  rw [if_neg]
  intro h
  obtain ⟨i, hi, e⟩ := List.mem_iff_getElem.1 h
  rw [List.length_take] at hi
  rw [List.getElem_take] at e
  have := List.pairwise_iff_getElem.1 hp i k (by omega) hk (by omega)
  rw [e, hz] at this
  omega
theorem clrV_all (V : Int → List ByteArray) (n : Nat) (h : ∀ z, V z ≠ [] → 0 ≤ z ∧ z < (n : Int)) : clrV V (pend n V) (pend n V).length = noV := by
  funext z
  unfold clrV noV
  rw [List.take_length]
  by_cases e : z ∈ pend n V
  · rw [if_pos e]
  · rw [if_neg e]
    apply Classical.byContradiction
    intro hn
    apply e
    obtain ⟨h1, h2⟩ := h z hn
    obtain ⟨i, rfl⟩ := Int.eq_ofNat_of_zero_le h1
    refine mem_pend.2 ⟨i, by omega, ?_, rfl⟩
    unfold zOf; cases e2 : V (i : Int); exact absurd e2 hn; rfl
set_option maxHeartbeats 4000000 in
theorem qcrash_any {w : World} {S : Nat → Prop} {m q0 cap : Nat} {fd : Bool} {L : List ByteArray} {V : Int → List ByteArray} {F : Nat → Value} (h : QBox w S m q0 cap fd L V F) (vc : Value) (ch : List Int)
    (hc : Reads w vc (ch.map (.int .i64))) (hcS : ch ≠ [] → ∀ b, vc.ownBlock = some b → ¬ S b) (hcI : ∀ c ∈ ch, In64 c) (hcn : ch.length ≤ 140737488355328) (hvn : ∀ z, (V z).length ≤ 1000000000000) :
    Calls Try.prog 16 #[.pointer (some ⟨m, 0, none⟩), vc] w fun e w' => e = .returned (.tuple #[]) ∧ QStep w S m fd (crash L V ch) noV w' := by
  have cp := qpend_any h
  have hlenc := fun W => hc.len_run (P := Try.prog) Try.underlying31 3 W
  rw [List.length_map] at hlenc
  have hkeys := h.keys
  have hzl := h.zl
  have hzv := h.zv
  have hPP := pend_lt L.length V
  have hall := clrV_all V L.length hkeys
  obtain ⟨P, hP⟩ : ∃ P, pend L.length V = P := ⟨_, rfl⟩
  have hPn : P.length ≤ 256 := by rw [← hP]; exact Nat.le_trans (pend_le _ _) h.n2
  have hPm : ∀ x ∈ P, ∃ i : Nat, i < L.length ∧ x = (i : Int) := fun x hx => by rw [← hP] at hx; obtain ⟨i, a, _, b⟩ := mem_pend.1 hx; exact ⟨i, a, b⟩
  have hcr : Hid (crash L V ch = crL L V ch P P.length) := Lib.hid (by unfold crash; rw [hP])
  rw [hP] at cp hPP hall
  have hN2 := h.n2
  clear hP
  go_enter Try.func16, Try.ntmps16
  go_wp2_with (fail)
  refine cp.mono ?_
  rintro e w1 ⟨vp, rfl, hb1, hO⟩
  clear cp
  have h1 := h.below hb1
  have hc1 : Reads w1 vc (ch.map (.int .i64)) := hc.below hb1
  have hlt := h.lt
  have hS1 := Lib.hid (Stp.quiet (S := S) hb1)
  have hOb := hO.o.lt
  have hlenp := fun W => hO.reads.len_run (P := Try.prog) Try.underlying31 3 W
  rw [List.length_map] at hlenp
  have hR1 := hO.reads
  have hpS : ∀ b, vp.ownBlock = some b → ¬ S b := fun b hb hs => by have := hlt b hs; have := (hOb b hb).1; omega
  clear h hc hO hb1 hlt hOb
  go_wp2_with (fail)
  go_loopw [5] (fun t wr => ∃ (k : Nat) (F' : Nat → Value), k ≤ P.length ∧ t = .int .i64 (k : Int) ∧ Stp S S w1 wr ∧ QBox wr S m q0 cap fd (crL L V ch P k) (clrV V P k) F') (fun t _ => P.length - (intOf t).toNat)
  case atStart => exact ⟨0, F, by omega, rfl, Stp.refl _ _, by rw [clrV_zero]; exact h1⟩
  case round =>
    clear h1
    obtain ⟨k, F', hk, rfl, hSt, hB⟩ := hrel
    by_cases hlt : k < P.length
    · have hcr1 : Reads wr vc (ch.map (.int .i64)) := by
        by_cases e : ch = []
        · rcases hc1 with x | ⟨b, off, c, x, _, _⟩
          · exact .inl x
          · rw [e] at x; exact .inl ⟨⟨_, _, x⟩, by rw [e]; rfl⟩
        · exact hc1.at (fun b hb => hSt.oth b (hc1.blk (by simpa using e) b hb) (hcS e b hb)) hSt.b0.size
      have hpr : Reads wr vp (P.map (.int .i64)) := hR1.at (fun b hb => hSt.oth b (hR1.blk (by intro e; simp at e; rw [e] at hlt; exact absurd hlt (Nat.not_lt_zero _)) b hb) (hpS b hb)) hSt.b0.size
      obtain ⟨pa, pcap, pv, pcell⟩ := hpr.nums
      obtain ⟨pb, po, rfl, plt, pc⟩ := pcell k hlt
      subst pv
      obtain ⟨nn, hnn, hnx⟩ := hPm (P.getD k 0) (by rw [List.getD_eq_getElem?_getD, List.getElem?_eq_getElem hlt]; exact List.getElem_mem hlt)
      have hPk : P[k] = (nn : Int) := by rw [← hnx, List.getD_eq_getElem?_getD, List.getElem?_eq_getElem hlt]; rfl
      have hVn := clrV_at V P k hlt _ hPk hPP
      have hVs := clrV_step V P k hlt _ hPk
      have hLn := crL_len L V ch P k
      have hnl : nn < (crL L V ch P k).length := by rw [hLn]; exact hnn
      have c0 := hB.c0
      rw [hLn] at c0
      have s0 := hB.s0 hnl
      have s1 := hB.s1 hnl
      have lv := hB.lenV hnl
      have hrow := hB.r nn hnl
      rw [hVn] at lv hrow
      have hqn := hvn nn
      obtain ⟨q, hq⟩ : ∃ q, (V nn).length = q := ⟨_, rfl⟩
      obtain ⟨p, hp⟩ : ∃ p, pickC (chAt ch k) = p := ⟨_, rfl⟩
      obtain ⟨j, hj⟩ : ∃ j, p % (q + 1) = j := ⟨_, rfl⟩
      have hjq : j ≤ q := by have := Nat.mod_lt p (show 0 < q + 1 by omega); omega
      have hJ : chJ V ch P k = j := by unfold chJ; rw [hnx, hq, hp]; exact hj
      have hnext : crL L V ch P (k + 1) = if j = 0 then crL L V ch P k else (crL L V ch P k).set nn ((V nn).getD (j - 1) zero128) := by
        show (if chJ V ch P k = 0 then _ else _) = _
        rw [hJ, hnx, Int.toNat_natCast]
      rw [hnx] at pc
      rw [hq] at lv hqn
      have hp64 : (p : Int) ≤ 9223372036854775807 := by
        rw [← hp]; unfold pickC chAt
        by_cases e : k < ch.length
        · have := in64_iff.1 (hcI (ch.getD k 0) (by rw [List.getD_eq_getElem?_getD, List.getElem?_eq_getElem e]; exact List.getElem_mem e))
          split <;> omega
        · rw [List.getD_eq_getElem?_getD, List.getElem?_eq_none (by omega)]; simp
      have k1 : (k : Int) < (P.length : Int) := by omega
      have k2 : (k : Int) + 1 ≤ 300 := by omega
      have hst : Hid (∀ t : ByteArray, t.size = 128 → crL L V ch P (k + 1) = (crL L V ch P k).set nn t → ∀ W obj, W = ((wr.alloc obj).setCell ⟨q0, nn * 2, none⟩ (.string t)).setCell ⟨q0, nn * 2 + 1, none⟩ (.slice none 0 0) → Stp S S w1 W.drew.drew ∧ QBox W.drew.drew S m q0 cap fd (crL L V ch P (k + 1)) (clrV V P (k + 1)) (upq F' nn nilS)) := Lib.hid fun t ht he W obj hW => by
        have hba : Below wr.heap.size wr (wr.alloc obj) := (Below.refl _ _).alloc (Nat.le_refl _) _
        obtain ⟨b1, b2⟩ := (hB.below hba).setS nn hnl t ht
        rw [hW, he, ← hVs]
        exact ⟨(hSt.trans ((Stp.quiet hba).trans b2)).drew'.drew', b1.drew.drew⟩
      have c0a : ∀ obj, (wr.alloc obj).cell? ⟨m, 0, none⟩ = some (.slice (some ⟨q0, 0, none⟩) L.length cap) := fun obj => by
        have := (hB.below ((Below.refl _ _).alloc (Nat.le_refl _) obj)).c0
        rw [hLn] at this; exact this
      have s0a : ∀ obj, (wr.alloc obj).cell? ⟨q0, nn * 2, none⟩ = some (.string (crL L V ch P k)[nn]) := fun obj => (hB.below ((Below.refl _ _).alloc (Nat.le_refl _) obj)).s0 hnl
      have s1a : ∀ obj, (wr.alloc obj).cell? ⟨q0, nn * 2 + 1, none⟩ = some (F' nn) := fun obj => (hB.below ((Below.refl _ _).alloc (Nat.le_refl _) obj)).s1 hnl
      have f0a : ∀ obj o, (wr.alloc obj).frozen? ⟨q0, o, none⟩ = false := fun obj o => (hB.below ((Below.refl _ _).alloc (Nat.le_refl _) obj)).sf o
      have pca : ∀ obj, (wr.alloc obj).cell? ⟨pb, po + k, none⟩ = some (.int .i64 (nn : Int)) := fun obj => by
        rw [((Below.refl wr.heap.size wr).alloc (Nat.le_refl _) obj).cell (p := ⟨pb, po + k, none⟩) plt]; exact pc
      have hLz : (crL L V ch P k)[nn].size = 128 := hB.zl _ (List.getElem_mem _)
      have hsame : (crL L V ch P k).set nn (crL L V ch P k)[nn] = crL L V ch P k := List.set_getElem_self _
      have n1 : (nn : Int) < (L.length : Int) := by omega
      clear hcI hPm hvn hR1 hc1 hpr pcell hnx hJ plt hB hSt hPk hPP hVn hVs hLn hkeys hall hcr hzl
      have hjh := Lib.hid hj
      have hnexth := Lib.hid hnext
      have hqh := Lib.hid hq
      have hroH := Lib.hid hrow
      have hzvH := Lib.hid (hzv nn)
      clear hq hj hnext hrow hzv
      obtain ⟨Lx, hLx⟩ : ∃ x, (crL L V ch P k)[nn] = x := ⟨_, rfl⟩
      rw [hLx] at s0 s0a hLz hsame
      obtain ⟨Fx, hFx⟩ : ∃ x, F' nn = x := ⟨_, rfl⟩
      rw [hFx] at s1 s1a lv
      have hFq : asQ Fx = Fx := by rw [← hFx]; exact asQ_own hroH.out
      have hFqH := Lib.hid hFq
      clear hLx hFq
      have hFxH := Lib.hid hFx
      clear hFx
      obtain ⟨c, hcc⟩ : ∃ c, chAt ch k = c := ⟨_, rfl⟩
      have hcp : pickC c = p := by rw [← hcc]; exact hp
      have hccH := Lib.hid hcc
      clear hcc hp
      have hcaH := Lib.hid (And.intro c0a (And.intro s0a (And.intro s1a (And.intro f0a pca))))
      have hlvH := Lib.hid lv
      clear c0a s0a s1a f0a pca lv
      go_upto_if 20 with (fail)
      go_cut [6, 20] from 21 to 24 (fun t _ wx => t = .int .i64 c ∧ wr = wx)
      case first =>
        clear pc c0 s0 s1 hlenp
        by_cases e : k < ch.length
        · obtain ⟨ca, ccap, rfl, ccell⟩ := hcr1.nums
          obtain ⟨cb, co, rfl, clt, cc⟩ := ccell k e
          have hcv : ch.getD k 0 = c := hccH.out
          rw [hcv] at cc
          have k3 : (k : Int) < (ch.length : Int) := by omega
          clear hcv e clt ccell hcr1
          go_wp2_with (fail)
          go_meet
          exact ⟨rfl, rfl⟩
        · have hc0 : c = 0 := by
            have := hccH.out
            unfold chAt at this
            rw [List.getD_eq_getElem?_getD, List.getElem?_eq_none (by omega)] at this
            rw [← this]; rfl
          subst hc0
          have k3 : ¬ ((k : Int) < (ch.length : Int)) := by omega
          clear e
          go_wp2_with (fail)
          go_meet
          exact ⟨rfl, rfl⟩
      case rest =>
      obtain ⟨rfl, rfl⟩ := hcut
      clear hcr1 hlenc
      go_upto_if 26 with (fail)
      go_cut [6, 26] from 27 to 29 (fun t _ wx => t = .int .i64 (p : Int) ∧ wr = wx)
      case first =>
        clear pc c0 s0 s1
        by_cases hneg : c < 0
        · have t2 : decide (c < 0) = true := decide_eq_true hneg
          have hcq : c + 1 = -(p : Int) := by unfold pickC at hcp; rw [if_pos hneg] at hcp; omega
          have hw1 : IntKind.i64.wrap (c + 1) = -(p : Int) := wrap_add _ _ hcq (by omega) (by omega)
          have hw2 : IntKind.i64.wrap (p : Int) = (p : Int) := wrap_in (by omega) (by omega)
          clear t2 hcp hcq
          go_wp2_with (fail)
          go_meet
          exact ⟨rfl, rfl⟩
        · have t2 : decide (c < 0) = false := decide_eq_false hneg
          have hcq : c = (p : Int) := by unfold pickC at hcp; rw [if_neg hneg] at hcp; omega
          clear t2 hcp hccH
          subst hcq
          go_wp2_with (fail)
          go_meet
          exact ⟨rfl, rfl⟩
      case rest =>
      obtain ⟨rfl, rfl⟩ := hcut
      clear hcp hccH
      have wq : IntKind.i64.wrap ((q : Int) + 1) = (q : Int) + 1 := wrap_in (by omega) (by omega)
      have hmod2 : ((p : Int)) % ((q : Int) + 1) = (j : Int) := by rw [← hjh.out]; exact (Int.natCast_emod p (q + 1)).symm
      have hmod : ((p : Int)).tmod ((q : Int) + 1) = (j : Int) := by rw [Int.tmod_eq_emod_of_nonneg (by omega)]; exact hmod2
      have hq00 : ¬ ((q : Int) + 1 = 0) := by omega
      obtain ⟨c0a, s0a, s1a, f0a, pca⟩ := hcaH.out
      obtain ⟨pi_, hpi⟩ : ∃ x, wr.heap.size = x := ⟨_, rfl⟩
      clear hcaH
      by_cases hj0 : j = 0
      · have hne : crL L V ch P (k + 1) = crL L V ch P k := by rw [hnexth.out, if_pos hj0]
        have hrel := Lib.hid (hst.out Lx hLz (by rw [hsame]; exact hne))
        have j1 : ¬ ((0 : Int) < (j : Int)) := by omega
        have lv := hlvH.out
        have hFq := hFqH.out
        obtain ⟨fa, fn, fc, hFs⟩ : ∃ a n c, Fx = .slice a n c := by rw [← hFq]; cases Fx <;> exact ⟨_, _, _, rfl⟩
        clear hFq hFqH
        subst hFs
        clear hne hsame hst hnexth hroH hzvH hj0 hLz hlt hpi hlvH
        go_wp2_with (fail)
        go_region
        go_wp2_with (fail)
        go_region
        go_wp2_with (fail)
        go_roundw
        case rel => exact ⟨k + 1, _, by omega, by go_num, hrel.out _ _ rfl⟩
        case measure => simp [intOf]; omega
      · obtain ⟨jj, rfl⟩ : ∃ jj, j = jj + 1 := ⟨j - 1, by omega⟩
        have hq' : (V nn).length = q := hqh.out
        have hjl : jj < (V nn).length := by omega
        have ho : Own wr 0 9 Fx ((V nn).map .string) := by rw [← hFxH.out]; exact hroH.out
        obtain ⟨gg, cv, hF2, _, _⟩ := ho.form (by rw [List.length_map]; omega)
        rw [List.length_map, hq'] at hF2
        have lv := hlvH.out
        rw [hF2] at ho s1 s1a lv
        have cl : ∀ obj, (wr.alloc obj).cell? ⟨gg, jj, none⟩ = some (.string (V nn)[jj]) := fun obj => by
          rw [(ho.alloc obj).cell (i := jj) (by rw [List.length_map]; omega), List.getD_eq_getElem?_getD, List.getElem?_map, List.getElem?_eq_getElem hjl]; rfl
        have htz : (V nn)[jj].size = 128 := hzvH.out _ (List.getElem_mem hjl)
        have hne : crL L V ch P (k + 1) = (crL L V ch P k).set nn (V nn)[jj] := by
          rw [hnexth.out, if_neg (by omega), show jj + 1 - 1 = jj by omega, List.getD_eq_getElem?_getD, List.getElem?_eq_getElem hjl]; rfl
        have hrel := Lib.hid (hst.out _ htz hne)
        have x2 : (jj : Int) < (q : Int) := by omega
        have x3 : (0 : Int) < (jj : Int) + 1 := by omega
        have x4 : IntKind.i64.wrap (jj : Int) = (jj : Int) := wrap_in (by omega) (by omega)
        have x5 : (0 : Int) ≤ (jj : Int) := by omega
        clear hne hsame hst hnexth hroH hzvH hj0 hLz hlt hpi hlvH hFxH hFqH hF2 ho hq' htz hqh hjh
        generalize (V nn)[jj] = tt at *
        clear hjl
        go_wp2_with (fail)
        go_region
        go_wp2_with (fail)
        go_region
        go_wp2_with (fail)
        go_roundw
        case rel => exact ⟨k + 1, _, by omega, by go_num, hrel.out _ _ rfl⟩
        case measure => simp [intOf]; omega
    · obtain rfl : k = P.length := by omega
      have hfin : Hid (QStep w S m fd (crash L V ch) noV wr) := by
        rw [hall, ← hcr.out] at hB
        exact Lib.hid ⟨S, q0, cap, F', hS1.out.trans hSt, hB⟩
      clear hB hSt
      go_wp2_with (fail)
      go_end0
      exact ⟨rfl, hfin.out⟩
end Go.Proofs.Ytofhmdbilhdblaa
