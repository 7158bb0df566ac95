/- member: Crash. -/
import Derived.Test.YtofhmdbilhdblaaMemSet
import Derived.Test.YtofhmdbilhdblaaSl4
import Derived.Deep.Cut
import Derived.Deep.CutRange
namespace Go.Proofs.Ytofhmdbilhdblaa
open Go.RowKit
set_option linter.unusedVariables false
set_option linter.unusedSimpArgs false

/-- What a raw number chooses. -/
def pickC (c : Int) : Nat := if c < 0 then (-(c + 1)).toNat else c.toNat
def chAt (ch : List Int) (k : Nat) : Int := ch.getD k 0
/-- The choice among what is pending in the k-th of the pending sectors. -/
def chJ (V : Int → List ByteArray) (ch P : List Int) (k : Nat) : Nat := pickC (chAt ch k) % ((V (P.getD k 0)).length + 1)
def crL (L : List ByteArray) (V : Int → List ByteArray) (ch P : List Int) : Nat → List ByteArray
  | 0 => L
  | k + 1 => if chJ V ch P k = 0 then crL L V ch P k else (crL L V ch P k).set (P.getD k 0).toNat ((V (P.getD k 0)).getD (chJ V ch P k - 1) zero128)
theorem crL_len (L : List ByteArray) (V : Int → List ByteArray) (ch P : List Int) : ∀ k, (crL L V ch P k).length = L.length
  | 0 => rfl
  | k + 1 => by
    unfold crL
    split
    · exact crL_len L V ch P k
    · rw [List.length_set]; exact crL_len L V ch P k
/-- What lasts behind a crash. -/
def crash (L : List ByteArray) (V : Int → List ByteArray) (ch : List Int) : List ByteArray := crL L V ch (pend L.length V) (pend L.length V).length
theorem Reads.at {w w' : World} {v : Value} {xs : List Value} (h : Reads w v xs) (hk : ∀ b, v.ownBlock = some b → w'.heap[b]? = w.heap[b]?) (hs : w.heap.size ≤ w'.heap.size) : Reads w' v xs := by
  rcases h with h | ⟨b, off, cap, rfl, h2, h3⟩
  · exact .inl h
  · exact .inr ⟨b, off, cap, rfl, Nat.lt_of_lt_of_le h2 hs, fun i hi => by rw [← h3 i hi]; exact cell_of_heap (hk b rfl) _⟩
theorem Reads.blk {w : World} {v : Value} {xs : List Value} (h : Reads w v xs) (hx : xs ≠ []) : ∀ b, v.ownBlock = some b → b < w.heap.size := by
  rcases h with ⟨_, h⟩ | ⟨b, off, cap, rfl, h2, h3⟩
  · exact absurd h hx
  · intro b' hb'
    have e : b = b' := by simpa [Value.ownBlock] using hb'
    omega
theorem wrap_in {z : Int} (h1 : -9223372036854775808 ≤ z) (h2 : z ≤ 9223372036854775807) : IntKind.i64.wrap z = z := by rw [IntKind.wrap_i64]; omega
theorem in64_iff {z : Int} : In64 z ↔ -9223372036854775808 ≤ z ∧ z ≤ 9223372036854775807 := by
  have h1 : IntKind.i64.min = -9223372036854775808 := by decide
  have h2 : IntKind.i64.max = 9223372036854775807 := by decide
  unfold In64; simp [Lit.wf, h1, h2]
theorem wrap_add {z : Int} (a b : Int) (e : a + b = z) (h1 : -9223372036854775808 ≤ z) (h2 : z ≤ 9223372036854775807) : IntKind.i64.wrap (a + b) = z := by rw [e]; exact wrap_in h1 h2
/-- What a crash leaves. -/
def CrashM (w : World) (S : Nat → Prop) (m g bp cap : Nat) (fd : Bool) (L : List ByteArray) (e : Ending) (w' : World) : Prop :=
  e = .returned (.tuple #[]) ∧ Stp S S w w' ∧ PBox w' S m g bp cap fd L noV noF
set_option maxRecDepth 100000 in
set_option maxHeartbeats 4000000 in
theorem crash_any {w : World} {S : Nat → Prop} {m g bp cap : Nat} {fd : Bool} {L : List ByteArray} {V : Int → List ByteArray} {F : Int → Value} (h : PBox w S m g bp cap fd L V F) (vc : Value) (ch : List Int)
    (hc : Reads w vc (ch.map (.int .i64))) (hcS : ch ≠ [] → ∀ b, vc.ownBlock = some b → ¬ S b) (hcI : ∀ c ∈ ch, In64 c) (hcn : ch.length ≤ 140737488355328) (hvn : ∀ z, (V z).length ≤ 1000000000000) :
    Calls Try.prog 15 #[.pointer (some ⟨m, 0, none⟩), vc] w (CrashM w S m g bp cap fd (crash L V ch)) := by
  have cp := pend_any h
  have hlenc := fun W => hc.len_run (P := Try.prog) Try.underlying31 3 W
  rw [List.length_map] at hlenc
  obtain ⟨P, hP⟩ : ∃ P, pend L.length V = P := ⟨_, rfl⟩
  have hPn : P.length ≤ 256 := by rw [← hP]; exact Nat.le_trans (pend_le _ _) h.n2
  have hPm : ∀ x ∈ P, ∃ i : Nat, i < L.length ∧ x = (i : Int) := fun x hx => by rw [← hP] at hx; obtain ⟨i, a, _, b⟩ := mem_pend.1 hx; exact ⟨i, a, b⟩
  have hcr : Hid (crash L V ch = crL L V ch P P.length) := Lib.hid (by unfold crash; rw [hP])
  rw [hP] at cp
  have hN2 := h.n2
  clear hP
  go_enter Try.func15, Try.ntmps15
  go_wp2_with (fail)
  refine cp.mono ?_
  rintro e w1 ⟨vp, rfl, hb1, hO⟩
  clear cp
  have h1 := h.below hb1
  have hc1 : Reads w1 vc (ch.map (.int .i64)) := hc.below hb1
  have hlt := h.lt
  have hS1 := Lib.hid (Stp.quiet (S := S) hb1)
  have hOb := hO.o.lt
  have hlenp := fun W => hO.reads.len_run (P := Try.prog) Try.underlying31 3 W
  rw [List.length_map] at hlenp
  have hR1 := hO.reads
  have hpS : ∀ b, vp.ownBlock = some b → ¬ S b := fun b hb hs => by have := hlt b hs; have := (hOb b hb).1; omega
  clear h hc hO hb1 hlt hOb
  go_wp2_with (fail)
  go_loopw [12] (fun t wr => ∃ k : Nat, k ≤ P.length ∧ t = .int .i64 (k : Int) ∧ Stp S S w1 wr ∧ PBox wr S m g bp cap fd (crL L V ch P k) V F) (fun t _ => P.length - (intOf t).toNat)
  case atStart => exact ⟨0, by omega, rfl, Stp.refl _ _, h1⟩
  case round =>
    obtain ⟨k, hk, rfl, hSt, hB⟩ := hrel
    by_cases hlt : k < P.length
    · have hcr1 : Reads wr vc (ch.map (.int .i64)) := by
        by_cases e : ch = []
        · rcases hc1 with x | ⟨b, off, c, x, _, _⟩
          · exact .inl x
          · rw [e] at x; exact .inl ⟨⟨_, _, x⟩, by rw [e]; rfl⟩
        · exact hc1.at (fun b hb => hSt.oth b (hc1.blk (by simpa using e) b hb) (hcS e b hb)) hSt.b0.size
      have hpr : Reads wr vp (P.map (.int .i64)) := hR1.at (fun b hb => hSt.oth b (hR1.blk (by intro e; simp at e; rw [e] at hlt; exact absurd hlt (Nat.not_lt_zero _)) b hb) (hpS b hb)) hSt.b0.size
      obtain ⟨pa, pcap, pv, pcell⟩ := hpr.nums
      obtain ⟨pb, po, rfl, plt, pc⟩ := pcell k hlt
      subst pv
      obtain ⟨nn, hnn, hnx⟩ := hPm (P.getD k 0) (by rw [List.getD_eq_getElem?_getD, List.getElem?_eq_getElem hlt]; exact List.getElem_mem hlt)
      have hI := in64_nat nn (by omega)
      have c2 := hB.c2
      have hlk := hB.look hI
      have hrow := hB.r nn hI
      have hqn := hvn nn
      have hlenr := fun W => hrow.reads.len_run (P := Try.prog) Try.underlying71 3 W
      obtain ⟨q, hq⟩ : ∃ q, (V nn).length = q := ⟨_, rfl⟩
      obtain ⟨p, hp⟩ : ∃ p, pickC (chAt ch k) = p := ⟨_, rfl⟩
      obtain ⟨j, hj⟩ : ∃ j, p % (q + 1) = j := ⟨_, rfl⟩
      have hjq : j ≤ q := by have := Nat.mod_lt p (show 0 < q + 1 by omega); omega
      have hJ : chJ V ch P k = j := by unfold chJ; rw [hnx, hq, hp]; exact hj
      have hnext : crL L V ch P (k + 1) = if j = 0 then crL L V ch P k else (crL L V ch P k).set nn ((V nn).getD (j - 1) zero128) := by
        show (if chJ V ch P k = 0 then _ else _) = _
        rw [hJ, hnx, Int.toNat_natCast]
      have hLn := crL_len L V ch P k
      rw [hnx] at pc
      rw [hq] at hlenr hqn
      have hp64 : (p : Int) ≤ 9223372036854775807 := by
        rw [← hp]; unfold pickC chAt
        by_cases e : k < ch.length
        · have := in64_iff.1 (hcI (ch.getD k 0) (by rw [List.getD_eq_getElem?_getD, List.getElem?_eq_getElem e]; exact List.getElem_mem e))
          split <;> omega
        · rw [List.getD_eq_getElem?_getD, List.getElem?_eq_none (by omega)]; simp
      have wq : IntKind.i64.wrap ((q : Int) + 1) = (q : Int) + 1 := wrap_in (by omega) (by omega)
      have hmod : ((p : Int)).tmod ((q : Int) + 1) = (j : Int) := by
        rw [Int.tmod_eq_emod_of_nonneg (by omega), ← hj]; exact (Int.natCast_emod p (q + 1)).symm
      have hmod2 : ((p : Int)) % ((q : Int) + 1) = (j : Int) := by rw [← hj]; exact (Int.natCast_emod p (q + 1)).symm
      have hq0 : ¬ ((q : Int) + 1 = 0) := by omega
      have hfin : ∃ W, Stp S S w1 W ∧ True := ⟨wr, hSt, trivial⟩
      have k1 : (k : Int) < (P.length : Int) := by omega
      have k2 : (k : Int) + 1 ≤ 300 := by omega
      clear hcI hPm hvn hR1 hc1 h1 hpr pcell hfin hnx hJ plt
      have hpk := Lib.hid hp
      have hqh := Lib.hid hq
      have hjh := Lib.hid hj
      have hSth := Lib.hid hSt
      have hBh := Lib.hid hB
      have hnexth := Lib.hid hnext
      have hroH := Lib.hid hrow
      have hLnH := Lib.hid hLn
      clear hp hq hj hSt hB hnext hrow hLn
      obtain ⟨c, hcc⟩ : ∃ c, chAt ch k = c := ⟨_, rfl⟩
      have hcp : pickC c = p := by rw [← hcc]; exact hpk.out
      have hccH := Lib.hid hcc
      clear hcc
      clear hlk hlenr hmod hmod2 hq0 wq
      go_upto_if 20 with (fail)
      go_cut [6, 20] from 21 to 24 (fun t _ wx => t = .int .i64 c ∧ wr = wx)
      case first =>
        clear pc c2 hlenp
        by_cases e : k < ch.length
        · obtain ⟨ca, ccap, rfl, ccell⟩ := hcr1.nums
          obtain ⟨cb, co, rfl, clt, cc⟩ := ccell k e
          have hcv : ch.getD k 0 = c := hccH.out
          rw [hcv] at cc
          have t1 : decide ((k : Int) < (ch.length : Int)) = true := decide_eq_true (by omega)
          have k3 : (k : Int) < (ch.length : Int) := by omega
          clear hcv e clt ccell hcr1 t1
          go_wp2_with (fail)
          go_meet
          exact ⟨rfl, rfl⟩
        · have hc0 : c = 0 := by
            have := hccH.out
            unfold chAt at this
            rw [List.getD_eq_getElem?_getD, List.getElem?_eq_none (by omega)] at this
            rw [← this]; rfl
          subst hc0
          have k3 : ¬ ((k : Int) < (ch.length : Int)) := by omega
          clear e
          go_wp2_with (fail)
          go_meet
          exact ⟨rfl, rfl⟩
      case rest =>
      obtain ⟨rfl, rfl⟩ := hcut
      clear hcr1 hlenc pc
      go_upto_if 26 with (fail)
      go_cut [6, 26] from 27 to 29 (fun t _ wx => t = .int .i64 (p : Int) ∧ wr = wx)
      case first =>
        by_cases hneg : c < 0
        · have t2 : decide (c < 0) = true := decide_eq_true hneg
          have hcq : c + 1 = -(p : Int) := by unfold pickC at hcp; rw [if_pos hneg] at hcp; omega
          have hw1 : IntKind.i64.wrap (c + 1) = -(p : Int) := wrap_add _ _ hcq (by omega) (by omega)
          have hw2 : IntKind.i64.wrap (p : Int) = (p : Int) := wrap_in (by omega) (by omega)
          clear t2 hcp hcq
          go_wp2_with (fail)
          go_meet
          exact ⟨rfl, rfl⟩
        · have t2 : decide (c < 0) = false := decide_eq_false hneg
          have hcq : c = (p : Int) := by unfold pickC at hcp; rw [if_neg hneg] at hcp; omega
          clear t2 hcp hccH
          subst hcq
          go_wp2_with (fail)
          go_meet
          exact ⟨rfl, rfl⟩
      case rest =>
      obtain ⟨rfl, rfl⟩ := hcut
      clear hcp
      have wq : IntKind.i64.wrap ((q : Int) + 1) = (q : Int) + 1 := wrap_in (by omega) (by omega)
      have hmod2 : ((p : Int)) % ((q : Int) + 1) = (j : Int) := by rw [← hjh.out]; exact (Int.natCast_emod p (q + 1)).symm
      have hmod : ((p : Int)).tmod ((q : Int) + 1) = (j : Int) := by rw [Int.tmod_eq_emod_of_nonneg (by omega)]; exact hmod2
      have hq0 : ¬ ((q : Int) + 1 = 0) := by omega
      have hlk := hBh.out.look hI
      have hlenr : ∀ W, (Builtin.len_ #[71] 3 #[F nn]).run Try.prog W = .ok (.int .i64 (q : Int)) W := fun W => by
        have := hroH.out.reads.len_run (P := Try.prog) Try.underlying71 3 W
        rw [hqh.out] at this; exact this
      by_cases hj0 : j = 0
      · subst hj0
        have hrel2 : Hid (Stp S S w1 wr ∧ PBox wr S m g bp cap fd (crL L V ch P (k + 1)) V F) := Lib.hid ⟨hSth.out, by rw [hnexth.out, if_pos rfl]; exact hBh.out⟩
        clear hroH hlt
        go_wp2_with (fail)
        go_roundw
        case rel => exact ⟨k + 1, by have := hk; omega, by go_num, hrel2.out.1, hrel2.out.2⟩
        case measure => simp [intOf]; omega
      · obtain ⟨jj, rfl⟩ : ∃ jj, j = jj + 1 := ⟨j - 1, by omega⟩
        have hq' : (V nn).length = q := hqh.out
        have hjl : jj < (V nn).length := by omega
        obtain ⟨gg, cv, hF, _, _⟩ := hroH.out.form (by omega)
        have hrow := hroH.out
        rw [hF] at hrow hlk
        rw [hF] at hlenr
        rw [hq'] at hrow hlk hlenr
        have hBd := hBh.out.drew
        have c1 := hBh.out.c1
        have c1d := hBd.c1
        have hld : ∀ W, PBox W S m g bp cap fd (crL L V ch P k) V F → (Instr.loadAt 80 (.pointer (some ⟨gg, jj * 128, none⟩))).run Try.prog W = .ok (.agg (contL (V nn)[jj]).toArray) W := fun W hW => by
          have := hW.r nn hI
          rw [hF, hq'] at this
          exact row_load (v := F nn) this hjl
        have hnl : nn < (crL L V ch P k).length := by rw [hLnH.out]; exact hnn
        obtain ⟨hst, hB2, hS2⟩ := hBd.setL nn hnl (V nn)[jj] (hBd.zv nn _ (List.getElem_mem hjl))
        have hrel2 : Hid (Stp S S w1 (wr.drew.setCells g (nn * 128) (contL (V nn)[jj])) ∧ PBox (wr.drew.setCells g (nn * 128) (contL (V nn)[jj])) S m g bp cap fd (crL L V ch P (k + 1)) V F) := by
          refine Lib.hid ⟨hSth.out.trans ⟨⟨hS2.b0.os, hS2.b0.tape, hS2.b0.output, hS2.b0.size, hS2.b0.block⟩, hS2.oth, hS2.grow⟩, ?_⟩
          rw [hnexth.out, if_neg (by omega), show jj + 1 - 1 = jj by omega, List.getD_eq_getElem?_getD, List.getElem?_eq_getElem hjl]
          exact hB2
        have hld0 := hld _ hBd
        have c12 : (wr.drew.setCells g (nn * 128) (contL (V nn)[jj])).cell? ⟨m, 1, none⟩ = some (.slice (some ⟨g, 0, none⟩) (crL L V ch P k).length cap) := by
          have := hB2.c1
          rw [List.length_set] at this; exact this
        have hld2 : (Instr.loadAt 80 (.pointer (some ⟨gg, jj * 128, none⟩))).run Try.prog (wr.drew.setCells g (nn * 128) (contL (V nn)[jj])) = .ok (.agg (contL (V nn)[jj]).toArray) (wr.drew.setCells g (nn * 128) (contL (V nn)[jj])) := by
          have := hB2.r nn hI
          rw [hF, hq'] at this
          exact row_load (v := F nn) this hjl
        have x1 : (nn : Int) < ((crL L V ch P k).length : Int) := by omega
        have x2 : (jj : Int) < (q : Int) := by omega
        have x3 : (0 : Int) < (jj : Int) + 1 := by omega
        have x4 : IntKind.i64.wrap (jj : Int) = (jj : Int) := wrap_in (by omega) (by omega)
        have x5 : (0 : Int) ≤ (jj : Int) := by omega
        clear hB2 hS2 hld hBd hrow hroH hF hq' hnl hlt hj0
        generalize (crL L V ch P k).length = LL at *
        generalize (V nn)[jj] = tt at *
        clear hjl
        generalize contL tt = cs at *
        generalize wr.drew.setCells g (nn * 128) cs = wz at *
        go_wp2_with (fail)
        refine wp_region_held_drew (S := fun W => W.cell? ⟨m, 1, none⟩ = some (.slice (some ⟨g, 0, none⟩) LL cap) ∧ (Instr.loadAt 80 (.pointer (some ⟨gg, jj * 128, none⟩))).run Try.prog W = .ok (.agg cs.toArray) W) (by kernel_rfl) ⟨c1d, hld0⟩ (fun hHeld => ?_)
        refine wpAnyH_takeD (i := 0) (some 43) rfl (by kernel_rfl) (by kernel_rfl) (by kernel_rfl) rfl (fun _ _ _ h => h) (Or.inl ⟨by rfl, by intro w hSw; go_simp; try rfl⟩) (by assumption) ?_
        simp only [Act.put, List.setIfInBounds_toArray, List.set_cons_zero, List.set_cons_succ]
        refine wpAnyH_takeD (i := 1) (some 44) rfl (by kernel_rfl) (by kernel_rfl) (by kernel_rfl) rfl (fun _ _ _ h => h) (Or.inl ⟨by rfl, by intro w hSw; go_simp; try rfl⟩) (by assumption) ?_
        simp only [Act.put, List.setIfInBounds_toArray, List.set_cons_zero, List.set_cons_succ]
        refine wpAnyH_takeD (i := 2) (some 45) rfl (by kernel_rfl) (by kernel_rfl) (by kernel_rfl) rfl (fun _ _ _ h => h) (Or.inl ⟨by rfl, by intro w hSw; go_simp; try rfl⟩) (by assumption) ?_
        simp only [Act.put, List.setIfInBounds_toArray, List.set_cons_zero, List.set_cons_succ]
        refine wpAnyH_takeD (i := 3) (some 46) rfl (by kernel_rfl) (by kernel_rfl) (by kernel_rfl) rfl (fun _ _ _ h => h) (Or.inl ⟨by rfl, by intro w hSw; replace hSw := hSw.1; go_simp; try rfl⟩) (by assumption) ?_
        simp only [Act.put, List.setIfInBounds_toArray, List.set_cons_zero, List.set_cons_succ]
        refine wpAnyH_takeD (i := 4) (some 47) rfl (by kernel_rfl) (by kernel_rfl) (by kernel_rfl) rfl (fun _ _ _ h => h) (Or.inl ⟨by rfl, by intro w hSw; go_simp; try rfl⟩) (by assumption) ?_
        simp only [Act.put, List.setIfInBounds_toArray, List.set_cons_zero, List.set_cons_succ]
        refine wpAnyH_takeD (i := 5) (some 48) rfl (by kernel_rfl) (by kernel_rfl) (by kernel_rfl) rfl (fun _ _ _ h => h) (Or.inl ⟨by rfl, by intro w hSw; go_simp; try rfl⟩) (by assumption) ?_
        simp only [Act.put, List.setIfInBounds_toArray, List.set_cons_zero, List.set_cons_succ]
        refine wpAnyH_takeD (i := 6) (some 49) rfl (by kernel_rfl) (by kernel_rfl) (by kernel_rfl) rfl (fun _ _ _ h => h) (Or.inl ⟨by rfl, by intro w hSw; go_simp; try rfl⟩) (by assumption) ?_
        simp only [Act.put, List.setIfInBounds_toArray, List.set_cons_zero, List.set_cons_succ]
        refine wpAnyH_takeD (i := 7) (some 50) rfl (by kernel_rfl) (by kernel_rfl) (by kernel_rfl) rfl (fun _ _ _ h => h) (Or.inl ⟨by rfl, by intro w hSw; go_simp; try rfl⟩) (by assumption) ?_
        simp only [Act.put, List.setIfInBounds_toArray, List.set_cons_zero, List.set_cons_succ]
        refine wpAnyH_takeD (i := 8) (some 51) rfl (by kernel_rfl) (by kernel_rfl) (by kernel_rfl) rfl (fun _ _ _ h => h) (Or.inl ⟨by rfl, by intro w hSw; go_simp; try rfl⟩) (by assumption) ?_
        simp only [Act.put, List.setIfInBounds_toArray, List.set_cons_zero, List.set_cons_succ]
        refine wpAnyH_takeD (i := 9) (some 52) rfl (by kernel_rfl) (by kernel_rfl) (by kernel_rfl) rfl (fun _ _ _ h => h) (yieldsIf_load_run (by rfl) _ rfl rfl (fun w hS => hS.2)) (by assumption) ?_
        simp only [Act.put, List.setIfInBounds_toArray, List.set_cons_zero, List.set_cons_succ]
        refine wpAnyH_takeD (i := 10) (some 53) rfl (by kernel_rfl) (by kernel_rfl) (by kernel_rfl) rfl (fun _ _ _ h => h) (Or.inl ⟨by rfl, by intro w hSw; go_simp; try rfl⟩) (by assumption) ?_
        simp only [Act.put, List.setIfInBounds_toArray, List.set_cons_zero, List.set_cons_succ]
        refine wpAnyH_ready (rs := [11]) (by kernel_rfl) (by simp) (AllReadyH.cons rfl (fun K hK => ?_) AllReadyH.nil)
        refine step_store_run (d := none) hst _ _ rfl rfl rfl rfl rfl ?_
        refine hK.out _ _ ⟨c12, hld2⟩ (fun hHeld => ?_)
        clear hK
        simp only [Act.put, List.setIfInBounds_toArray, List.set_cons_zero, List.set_cons_succ]
        refine wpAnyH_done (by kernel_rfl) ?_ _
        go_wp2_with (fail)
        go_roundw
        case rel => exact ⟨k + 1, by have := hk; omega, by go_num, hrel2.out.1, hrel2.out.2⟩
        case measure => simp [intOf]; omega
    · obtain rfl : k = P.length := by omega
      obtain ⟨w', hcl, hB2, hS2⟩ := hB.clear 0
      have c2 := hB.c2
      have hfin : Hid (CrashM w S m g bp cap fd (crash L V ch) (.returned (.tuple #[])) w') := Lib.hid ⟨rfl, (hS1.out.trans hSt).trans hS2, by rw [hcr.out]; exact hB2⟩
      clear hB hB2 hS2 hSt
      go_wp2_with (fail)
      go_end0
      exact hfin.out
end Go.Proofs.Ytofhmdbilhdblaa

