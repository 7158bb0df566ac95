/- rack: RackPlays. -/
import Derived.Test.YtofhmdbilhdblaaRackP9
namespace Go.Proofs.Ytofhmdbilhdblaa
open Go.RowKit
set_option linter.unusedVariables false
set_option linter.unusedSimpArgs false
set_option maxRecDepth 100000

theorem pick9_all (c : Int) (n : Nat) (hc : In64 c) (h1 : 1 ≤ n) (h2 : n ≤ 4611686018427387904) (w : World) :
    Calls Try.prog 40 #[.int .i64 c, .int .i64 (n : Int)] w fun e w' => e = .returned (.int .i64 ((pickC c % n : Nat) : Int)) ∧ w = w' := by
  obtain ⟨a1, a2⟩ := in64_iff.1 hc
  obtain ⟨p, hp⟩ : ∃ p, pickC c = p := ⟨_, rfl⟩
  rw [hp]
  have hmod2 : ((p : Int)) % (n : Int) = ((p % n : Nat) : Int) := (Int.natCast_emod p n).symm
  have hmod : ((p : Int)).tmod (n : Int) = ((p % n : Nat) : Int) := by rw [Int.tmod_eq_emod_of_nonneg (by omega)]; exact hmod2
  have hn0 : ¬ (n : Int) = 0 := by omega
  have hn1 : ¬ n = 0 := by omega
  generalize p % n = r at *
  by_cases hneg : c < 0
  · have hcq : c + 1 = -(p : Int) := by unfold pickC at hp; rw [if_pos hneg] at hp; omega
    have hw1 : IntKind.i64.wrap (c + 1) = -(p : Int) := wrap_add _ _ hcq (by omega) (by omega)
    have hw2 : IntKind.i64.wrap (p : Int) = (p : Int) := wrap_in (by omega) (by omega)
    clear hcq hp a1 a2 hc h1 h2
    go_enter Try.func40, Try.ntmps40
    go_wp2
    go_ret
    exact ⟨rfl, rfl⟩
  · have hcq : c = (p : Int) := by unfold pickC at hp; rw [if_neg hneg] at hp; omega
    clear hp a1 a2 hc h1 h2
    subst hcq
    go_enter Try.func40, Try.ntmps40
    go_wp2
    go_ret
    exact ⟨rfl, rfl⟩
theorem lenOk_upd {n : Nat} {M : Nat → Mst} {j : Nat} {st : Mst} (h : ∀ i, i < n → (M i).L.length ≤ 256) (hs : st.L.length = (M j).L.length) (hj : j < n) : ∀ i, i < n → (upd M j st i).L.length ≤ 256 := fun i hi => by
  by_cases e : i = j
  · rw [e, upd_same, hs]; exact h j hj
  · rw [upd_other _ _ _ _ e]; exact h i hi
/-- How many sectors there may be. -/
def LOk (n : Nat) (R : Rk) : Prop := ∀ i, i < n → (R.M i).L.length ≤ 256
theorem LOk.ak {n : Nat} {R : Rk} (h : LOk n R) (s : Int) : LOk n (akR n R s) := by
  unfold akR; split <;> exact h
theorem LOk.wr {n : Nat} {R : Rk} (h : LOk n R) (s a : Int) (t : ByteArray) : LOk n (wrR n R s a t) := by
  unfold wrR
  split
  · rename_i he
    obtain ⟨i, rfl, hi, _, _⟩ := akE_ok he
    rw [Int.toNat_natCast]
    exact lenOk_upd h (wrM_len _ _ _) hi
  · exact h.ak s
theorem LOk.fl {n : Nat} {R : Rk} (h : LOk n R) (s : Int) : LOk n (flR n R s) := by
  unfold flR
  split
  · rename_i he
    obtain ⟨i, rfl, hi, _, _⟩ := akE_ok he
    rw [Int.toNat_natCast]
    exact lenOk_upd h (flM_len _) hi
  · exact h.ak s
theorem LOk.ar {n : Nat} {R : Rk} (h : LOk n R) (a : Int) : LOk n (arR R a) := by unfold arR; split <;> exact h
theorem LOk.re {n : Nat} {R : Rk} (h : LOk n R) (l : List (Value × List Int)) : LOk n (reR R l) := fun i hi => by
  show (crashM (R.M i) (chs l i)).L.length ≤ 256
  rw [crashM_len]; exact h i hi
theorem LOk.up {n : Nat} {R : Rk} (h : LOk n R) (s : Int) (f : Mst → Mst) (hf : ∀ M, (f M).L.length = M.L.length) : LOk n (upR n R s f) := by
  unfold upR
  split
  · rename_i he
    obtain ⟨i, rfl, hi⟩ := hasK_is he
    rw [Int.toNat_natCast]
    exact lenOk_upd h (hf _) hi
  · exact h
def Inv (n : Nat) (R : Rk) (k : Nat) : Prop := ROk n R k ∧ LOk n R
set_option maxHeartbeats 8000000 in
theorem plays9_walk (a0 a1 : Int) (v2 : Value) (la : List Ac9) (w : World) (n0 : -9223372036854775808 ≤ a0 ∧ a0 ≤ 9223372036854775807) (n1 : -9223372036854775808 ≤ a1 ∧ a1 ≤ 9223372036854775807) (hA1 : ActsR w v2 la) :
    Calls Try.prog 4 #[.int .i64 a0, .int .i64 a1, v2] w (Ends w true) := by
  have hlena := fun W => hA1.1.len_run (P := Try.prog) Try.underlying50 3 W
  go_enter Try.func4, Try.ntmps4
  go_wp2_with (fail)
  refine (awake9_any _).mono ?_
  rintro e w1 ⟨rfl, b1⟩
  go_wp2_with (fail)
  by_cases hbad : a0 < 1 ∨ 7 < a0
  · refine (rnew_badn a0 a1 _ hbad).mono ?_
    rintro e w' ⟨rfl, rfl⟩
    go_wp2_with (fail)
    refine (knew_badn a0 a1 _ hbad).mono ?_
    rintro e w' ⟨rfl, rfl⟩
    clear hbad
    go_wp2_with (fail)
    go_ret
    exact ⟨rfl, b1⟩
  by_cases hbad2 : a1 < 1 ∨ 256 < a1
  · refine (rnew_bads a0 a1 _ (by omega) hbad2).mono ?_
    rintro e w2 ⟨rfl, b2⟩
    go_wp2_with (fail)
    refine (knew_bads a0 a1 _ (by omega) hbad2).mono ?_
    rintro e w3 ⟨rfl, b3⟩
    have b4 := Lib.hid (below_c (below_c b1 b2) b3)
    clear hbad hbad2 b1 b2 b3
    go_wp2_with (fail)
    go_ret
    exact ⟨rfl, b4.out⟩
  obtain ⟨n, rfl⟩ := Int.eq_ofNat_of_zero_le (show 0 ≤ a0 by omega)
  obtain ⟨sc, rfl⟩ := Int.eq_ofNat_of_zero_le (show 0 ≤ a1 by omega)
  have hn1 : 1 ≤ n := by omega
  have hn7 : n ≤ 7 := by omega
  have hs1 : 1 ≤ sc := by omega
  have hs2 : sc ≤ 256 := by omega
  clear hbad hbad2 n0 n1
  refine (rs_new n sc _ hn1 hn7 hs1 hs2).mono ?_
  rintro e w2 ⟨Sa, ka, rfl, ha⟩
  go_wp2_with (fail)
  refine (kt_new n sc _ hn1 hn7 hs1 hs2).mono ?_
  rintro e w3 ⟨Sb, kb, rfl, hq⟩
  have hR1 : ReadsE aE w1 v2 la := hA1.1.below b1
  have hQ2 : ∀ x ∈ la, (In64 x.wh ∧ In64 x.sl ∧ In64 x.at_ ∧ In64 x.n) ∧ ChR w1 x.v x.l ∧ x.l.length ≤ 140737488355328 := fun x hx => by
    obtain ⟨h1, h2, h3⟩ := hA1.2.1 x hx
    exact ⟨h1, h2.below b1, h3⟩
  have hb1H := Lib.hid b1
  have hq1 : KA w1 Sb w3 kb n ⟨fun _ => ⟨false, List.replicate sc zero128, noV⟩, false, 0, 0⟩ := ⟨ha.b.trans (hq.b.mono ha.b.size), fun x hx => Nat.le_trans ha.b.size (hq.f x hx), hq.h⟩
  have ha1 : RA w1 Sa w3 ka n ⟨fun _ => ⟨false, List.replicate sc zero128, noV⟩, false, 0, 0⟩ := RS.after ha hq.b
  have hd0 : ∀ k, Sa k → ¬ Sb k := fun k hk hk2 => by
    have := RS.lt ha k hk
    have := hq.f k hk2
    omega
  have hI0 : Inv n ⟨fun _ => ⟨false, List.replicate sc zero128, noV⟩, false, 0, 0⟩ 0 := ⟨⟨⟨Int.le_refl _, Int.le_refl _⟩, ⟨Int.le_refl _, by show (0 : Int) ≤ _; omega⟩, fun i hi => Vn.none _ _ _⟩, fun i hi => by show (List.replicate sc zero128).length ≤ 256; rw [List.length_replicate]; exact hs2⟩
  have hrel0 : Hid (∃ Sa Sb R, P9' w1 Sa Sb w3 ka kb n R ∧ Inv n R 0) := Lib.hid ⟨Sa, Sb, _, ⟨ha1, hq1, hd0⟩, hI0⟩
  have hnn : 1 ≤ n ∧ n ≤ 7 := ⟨hn1, hn7⟩
  clear b1 ha hq hq1 ha1 hd0 hA1 hn1 hn7 hs1 hs2 hI0
  go_upto_block 0 with (fail)
  go_cut [12] from 48 to 235 (fun _ wx => ∃ (Sa Sb : Nat → Prop) (R : Rk), P9' w1 Sa Sb wx ka kb n R ∧ LOk n R)
  case first =>
   go_wp2_with (fail)
   go_loopw [12] (fun t wr => ∃ (k : Nat), k ≤ 100 ∧ k ≤ la.length ∧ t = .int .i64 (k : Int) ∧ ∃ (Sa Sb : Nat → Prop) (R : Rk), P9' w1 Sa Sb wr ka kb n R ∧ Inv n R k) (fun t _ => 100 - (intOf t).toNat)
   case atStart => exact ⟨0, by omega, by omega, rfl, hrel0.out⟩
   case round =>
    clear hrel0
    obtain ⟨k, hk200, hkl, rfl, Sa, Sb, R, ⟨ha, hq, hd⟩, hV⟩ := hrel
    by_cases hlt : k < la.length ∧ k < 100
    · obtain ⟨hl1, hl2⟩ := hlt
      have k1 : (k : Int) < (la.length : Int) := by omega
      have k2 : (k : Int) < 100 := by omega
      obtain ⟨pa, pcap, rfl, pcell⟩ := hR1.items
      obtain ⟨cb, co, rfl, clt, cc⟩ := pcell k hl1
      obtain ⟨⟨i0, i1, i2, i3⟩, hC, hCn⟩ := hQ2 _ (List.getElem_mem hl1)
      obtain ⟨x, hx⟩ : ∃ x, la[k] = x := ⟨_, rfl⟩
      rw [hx] at cc i0 i1 i2 i3 hC hCn
      have hav : asS x.v = x.v := asS_of hC.o
      have hba := RA.b ha
      have cell : ∀ j, j < 5 → wr.cell? ⟨cb, co + k * 5 + j, none⟩ = (aE.f x)[j]? := fun j hj => by
        rw [Nat.add_assoc]
        exact (hba.cell (p := ⟨cb, co + (k * 5 + j), none⟩) clt).trans (cc j hj)
      have q0 := cell 0 (by omega)
      have q1 := cell 1 (by omega)
      have q2 := cell 2 (by omega)
      have q3 := cell 3 (by omega)
      have q4 := cell 4 (by omega)
      obtain ⟨ca, cn, ccp, hcv⟩ : ∃ a n c, x.v = .slice a n c := by
        rw [← hav]; cases x.v <;> exact ⟨_, _, _, rfl⟩
      replace q0 : wr.cell? ⟨cb, co + k * 5, none⟩ = some (.int .i64 x.wh) := q0
      replace q1 : wr.cell? ⟨cb, co + k * 5 + 1, none⟩ = some (.int .i64 x.sl) := q1
      replace q2 : wr.cell? ⟨cb, co + k * 5 + 2, none⟩ = some (.int .i64 x.at_) := q2
      replace q3 : wr.cell? ⟨cb, co + k * 5 + 3, none⟩ = some (.int .i64 x.n) := q3
      replace q4 : wr.cell? ⟨cb, co + k * 5 + 4, none⟩ = some (.slice ca cn ccp) := by rw [← hcv, ← hav]; exact q4
      have hBX : Hid (P9 w1 Sa Sb (wr.alloc (.cells #[.int .i64 x.wh, .int .i64 x.sl, .int .i64 x.at_, .int .i64 x.n, .slice ca cn ccp] 59)) ka kb n R R wr.heap.size (.cells #[.int .i64 x.wh, .int .i64 x.sl, .int .i64 x.at_, .int .i64 x.n, .slice ca cn ccp] 59 (0, 0))) := by
        have b2 : Below wr.heap.size wr (wr.alloc (.cells #[.int .i64 x.wh, .int .i64 x.sl, .int .i64 x.at_, .int .i64 x.n, .slice ca cn ccp] 59)) := (Below.refl _ _).alloc (Nat.le_refl _) _
        exact Lib.hid ⟨ha.after b2, hq.after b2, hd, heap_alloc_new _ _, fun e => by have := RA.lt ha _ e; omega, fun e => by have := hq.lt _ e; omega⟩
      rw [hcv] at hC
      clear ha hq hd pcell cc cell hcv hx hav hba hQ2
      go_upto_region 13 with (fail)
      have e0 : (wr.alloc (.cells #[.int .i64 x.wh, .int .i64 x.sl, .int .i64 x.at_, .int .i64 x.n, .slice ca cn ccp] 59)).cell? ⟨wr.heap.size, 0, none⟩ = some (.int .i64 x.wh) := by rw [World.cell?_alloc_mark]; rfl
      clear q0 q1 q2 q3 q4 clt hR1
      generalize wr.alloc (.cells #[.int .i64 x.wh, .int .i64 x.sl, .int .i64 x.at_, .int .i64 x.n, .slice ca cn ccp] 59) = wa at *
      generalize wr.heap.size = xb at *
      obtain ⟨X, hX⟩ : ∃ X, Obj.cells #[.int .i64 x.wh, .int .i64 x.sl, .int .i64 x.at_, .int .i64 x.n, .slice ca cn ccp] 59 (0, 0) = X := ⟨_, rfl⟩
      rw [hX] at hBX
      have hP := hBX.out
      clear hBX
      have hS1 : Hid (∀ V Sa Sb Ra Rq, P9 w1 Sa Sb V ka kb n Ra Rq xb X → V.cell? ⟨xb, 1, none⟩ = some (.int .i64 x.sl)) := Lib.hid fun V _ _ _ _ h => (h.cell hX.symm 1).trans rfl
      have hS2 : Hid (∀ V Sa Sb Ra Rq, P9 w1 Sa Sb V ka kb n Ra Rq xb X → V.cell? ⟨xb, 2, none⟩ = some (.int .i64 x.at_)) := Lib.hid fun V _ _ _ _ h => (h.cell hX.symm 2).trans rfl
      have hS3 : Hid (∀ V Sa Sb Ra Rq, P9 w1 Sa Sb V ka kb n Ra Rq xb X → V.cell? ⟨xb, 3, none⟩ = some (.int .i64 x.n)) := Lib.hid fun V _ _ _ _ h => (h.cell hX.symm 3).trans rfl
      have hS4 : Hid (∀ V Sa Sb Ra Rq, P9 w1 Sa Sb V ka kb n Ra Rq xb X → V.cell? ⟨xb, 4, none⟩ = some (.slice ca cn ccp)) := Lib.hid fun V _ _ _ _ h => (h.cell hX.symm 4).trans rfl
      have pk : ∀ (c : Int) (m : Nat), In64 c → 1 ≤ m → m ≤ 300 → ∀ W, Calls Try.prog 40 #[.int .i64 c, .int .i64 (m : Int)] W fun e w' => e = .returned (.int .i64 ((pickC c % m : Nat) : Int)) ∧ W = w' := fun c m hc h1 h2 W => pick9_all c m hc h1 (by omega) W
      obtain ⟨t, ht⟩ : ∃ t, pickC x.wh % 14 = t := ⟨_, rfl⟩
      have ht12 : t < 14 := by rw [← ht]; exact Nat.mod_lt _ (by omega)
      have cpt : ∀ W, Calls Try.prog 40 #[.int .i64 x.wh, .int .i64 14] W fun e w' => e = .returned (.int .i64 (t : Int)) ∧ W = w' := fun W => by
        have := pk x.wh 14 i0 (by omega) (by omega) W
        rw [ht] at this; exact this
      obtain ⟨jb, hjb⟩ : ∃ t, pickC x.n % 130 = t := ⟨_, rfl⟩
      have hjb8 : jb < 130 := by rw [← hjb]; exact Nat.mod_lt _ (by omega)
      have cpb : ∀ W, Calls Try.prog 40 #[.int .i64 x.n, .int .i64 130] W fun e w' => e = .returned (.int .i64 (jb : Int)) ∧ W = w' := fun W => by
        have := pk x.n 130 i3 (by omega) (by omega) W
        rw [hjb] at this; exact this
      have cS := fun W => sector_any x.n i3 W
      have hs8 := sec_size x.n
      have hVO : ROk n R 1000000000000 := hV.1.le (by omega)
      clear pk ht hjb
      generalize sec x.n = sq at *
      go_wp2_with (fail)
      refine (cpt _).mono ?_
      rintro e w' ⟨rfl, rfl⟩
      clear cpt e0 i0
      go_upto_block 2 with (fail)
      go_cut [14, 64] from 65 to 170 (fun s12 _ wx => s12 = .bool true ∧ ∃ (Sa Sb : Nat → Prop) (R' : Rk), P9 w1 Sa Sb wx ka kb n R' R' xb X ∧ Inv n R' (k + 1))
      case first =>
       rcases (by omega : t = 0 ∨ t = 1 ∨ t = 2 ∨ t = 3 ∨ t = 4 ∨ t = 5 ∨ t = 6 ∨ t = 7 ∨ t = 8 ∨ t = 9 ∨ t = 10 ∨ t = 11 ∨ t = 12 ∨ t = 13) with rfl | rfl | rfl | rfl | rfl | rfl | rfl | rfl | rfl | rfl | rfl | rfl | rfl | rfl
       · as_aux_lemma =>
           have cA : ∀ W Sa Sb Mq, P9 w1 Sa Sb W ka kb n R Mq xb X → Calls Try.prog 41 #[.pointer (some ⟨ka, 0, none⟩), .int .i64 x.sl, .int .i64 x.at_, .string sq] W (DoesRA w1 Sb ka kb n (wrR n R x.sl x.at_ sq) Mq xb X (.int .i64 (wrRE n R x.sl x.at_ sq))) := fun W Sa Sb Mq h => h.doA (rt_write h.a x.sl x.at_ sq hVO)
           have cQ : ∀ W Sa Sb Ma, P9 w1 Sa Sb W ka kb n Ma R xb X → Calls Try.prog 42 #[.pointer (some ⟨kb, 0, none⟩), .int .i64 x.sl, .int .i64 x.at_, .string sq] W (DoesRQ w1 Sa ka kb n Ma (wrR n R x.sl x.at_ sq) xb X (.int .i64 (wrRE n R x.sl x.at_ sq))) := fun W Sa Sb Ma h => h.doQ (kt_write h.q x.sl x.at_ sq (by omega) hVO)
           have hV2 : Inv n (wrR n R x.sl x.at_ sq) (k + 1) := ⟨hV.1.wr _ _ _, hV.2.wr _ _ _⟩
           obtain ⟨E0, hE0⟩ : ∃ e, wrRE n R x.sl x.at_ sq = e := ⟨_, rfl⟩
           rw [hE0] at cA cQ
           have hee : (E0 == E0) = true := beq_self_eq_true _
           obtain ⟨M2, hM2⟩ : ∃ e, wrR n R x.sl x.at_ sq = e := ⟨_, rfl⟩
           rw [hM2] at cA cQ hV2
           clear hE0 hM2
           have hPd := hP.drew
           clear hVO hV
           go_wp2_with (fail)
           go_region_held3 (fun V => V.cell? ⟨xb, 1, none⟩ = some (.int .i64 x.sl) ∧ V.cell? ⟨xb, 2, none⟩ = some (.int .i64 x.at_) ∧ V.cell? ⟨xb, 3, none⟩ = some (.int .i64 x.n)) (first | exact ⟨hS1.out _ _ _ _ _ (by assumption), hS2.out _ _ _ _ _ (by assumption), hS3.out _ _ _ _ _ (by assumption)⟩) (first
             | (go_at_call 11; refine (cS _).mono ?_; rintro e w7 ⟨rfl, b7⟩; have p7 := P9.after (by assumption) b7)
             | (go_at_call 41; refine (cA _ _ _ _ (by assumption)).mono ?_; rintro e w7 ⟨rfl, S7, p7⟩)
             | (go_at_call 42; refine (cQ _ _ _ _ (by assumption)).mono ?_; rintro e w7 ⟨rfl, S7, p7⟩))
           all_goals
             go_wp2_with (fail)
             go_meet
             exact ⟨rfl, _, _, _, (by assumption), hV2⟩
       · as_aux_lemma =>
           have cA : ∀ W Sa Sb Mq, P9 w1 Sa Sb W ka kb n R Mq xb X → Calls Try.prog 41 #[.pointer (some ⟨ka, 0, none⟩), .int .i64 x.sl, .int .i64 x.at_, .string sq] W (DoesRA w1 Sb ka kb n (wrR n R x.sl x.at_ sq) Mq xb X (.int .i64 (wrRE n R x.sl x.at_ sq))) := fun W Sa Sb Mq h => h.doA (rt_write h.a x.sl x.at_ sq hVO)
           have cQ : ∀ W Sa Sb Ma, P9 w1 Sa Sb W ka kb n Ma R xb X → Calls Try.prog 42 #[.pointer (some ⟨kb, 0, none⟩), .int .i64 x.sl, .int .i64 x.at_, .string sq] W (DoesRQ w1 Sa ka kb n Ma (wrR n R x.sl x.at_ sq) xb X (.int .i64 (wrRE n R x.sl x.at_ sq))) := fun W Sa Sb Ma h => h.doQ (kt_write h.q x.sl x.at_ sq (by omega) hVO)
           have hV2 : Inv n (wrR n R x.sl x.at_ sq) (k + 1) := ⟨hV.1.wr _ _ _, hV.2.wr _ _ _⟩
           obtain ⟨E0, hE0⟩ : ∃ e, wrRE n R x.sl x.at_ sq = e := ⟨_, rfl⟩
           rw [hE0] at cA cQ
           have hee : (E0 == E0) = true := beq_self_eq_true _
           obtain ⟨M2, hM2⟩ : ∃ e, wrR n R x.sl x.at_ sq = e := ⟨_, rfl⟩
           rw [hM2] at cA cQ hV2
           clear hE0 hM2
           have hPd := hP.drew
           clear hVO hV
           go_wp2_with (fail)
           go_region_held3 (fun V => V.cell? ⟨xb, 1, none⟩ = some (.int .i64 x.sl) ∧ V.cell? ⟨xb, 2, none⟩ = some (.int .i64 x.at_) ∧ V.cell? ⟨xb, 3, none⟩ = some (.int .i64 x.n)) (first | exact ⟨hS1.out _ _ _ _ _ (by assumption), hS2.out _ _ _ _ _ (by assumption), hS3.out _ _ _ _ _ (by assumption)⟩) (first
             | (go_at_call 11; refine (cS _).mono ?_; rintro e w7 ⟨rfl, b7⟩; have p7 := P9.after (by assumption) b7)
             | (go_at_call 41; refine (cA _ _ _ _ (by assumption)).mono ?_; rintro e w7 ⟨rfl, S7, p7⟩)
             | (go_at_call 42; refine (cQ _ _ _ _ (by assumption)).mono ?_; rintro e w7 ⟨rfl, S7, p7⟩))
           all_goals
             go_wp2_with (fail)
             go_meet
             exact ⟨rfl, _, _, _, (by assumption), hV2⟩
       · as_aux_lemma =>
           have cA : ∀ W Sa Sb Mq, P9 w1 Sa Sb W ka kb n R Mq xb X → Calls Try.prog 41 #[.pointer (some ⟨ka, 0, none⟩), .int .i64 x.sl, .int .i64 x.at_, .string sq] W (DoesRA w1 Sb ka kb n (wrR n R x.sl x.at_ sq) Mq xb X (.int .i64 (wrRE n R x.sl x.at_ sq))) := fun W Sa Sb Mq h => h.doA (rt_write h.a x.sl x.at_ sq hVO)
           have cQ : ∀ W Sa Sb Ma, P9 w1 Sa Sb W ka kb n Ma R xb X → Calls Try.prog 42 #[.pointer (some ⟨kb, 0, none⟩), .int .i64 x.sl, .int .i64 x.at_, .string sq] W (DoesRQ w1 Sa ka kb n Ma (wrR n R x.sl x.at_ sq) xb X (.int .i64 (wrRE n R x.sl x.at_ sq))) := fun W Sa Sb Ma h => h.doQ (kt_write h.q x.sl x.at_ sq (by omega) hVO)
           have hV2 : Inv n (wrR n R x.sl x.at_ sq) (k + 1) := ⟨hV.1.wr _ _ _, hV.2.wr _ _ _⟩
           obtain ⟨E0, hE0⟩ : ∃ e, wrRE n R x.sl x.at_ sq = e := ⟨_, rfl⟩
           rw [hE0] at cA cQ
           have hee : (E0 == E0) = true := beq_self_eq_true _
           obtain ⟨M2, hM2⟩ : ∃ e, wrR n R x.sl x.at_ sq = e := ⟨_, rfl⟩
           rw [hM2] at cA cQ hV2
           clear hE0 hM2
           have hPd := hP.drew
           clear hVO hV
           go_wp2_with (fail)
           go_region_held3 (fun V => V.cell? ⟨xb, 1, none⟩ = some (.int .i64 x.sl) ∧ V.cell? ⟨xb, 2, none⟩ = some (.int .i64 x.at_) ∧ V.cell? ⟨xb, 3, none⟩ = some (.int .i64 x.n)) (first | exact ⟨hS1.out _ _ _ _ _ (by assumption), hS2.out _ _ _ _ _ (by assumption), hS3.out _ _ _ _ _ (by assumption)⟩) (first
             | (go_at_call 11; refine (cS _).mono ?_; rintro e w7 ⟨rfl, b7⟩; have p7 := P9.after (by assumption) b7)
             | (go_at_call 41; refine (cA _ _ _ _ (by assumption)).mono ?_; rintro e w7 ⟨rfl, S7, p7⟩)
             | (go_at_call 42; refine (cQ _ _ _ _ (by assumption)).mono ?_; rintro e w7 ⟨rfl, S7, p7⟩))
           all_goals
             go_wp2_with (fail)
             go_meet
             exact ⟨rfl, _, _, _, (by assumption), hV2⟩
       · as_aux_lemma =>
           have cA : ∀ W Sa Sb Mq, P9 w1 Sa Sb W ka kb n R Mq xb X → Calls Try.prog 41 #[.pointer (some ⟨ka, 0, none⟩), .int .i64 x.sl, .int .i64 x.at_, .string sq] W (DoesRA w1 Sb ka kb n (wrR n R x.sl x.at_ sq) Mq xb X (.int .i64 (wrRE n R x.sl x.at_ sq))) := fun W Sa Sb Mq h => h.doA (rt_write h.a x.sl x.at_ sq hVO)
           have cQ : ∀ W Sa Sb Ma, P9 w1 Sa Sb W ka kb n Ma R xb X → Calls Try.prog 42 #[.pointer (some ⟨kb, 0, none⟩), .int .i64 x.sl, .int .i64 x.at_, .string sq] W (DoesRQ w1 Sa ka kb n Ma (wrR n R x.sl x.at_ sq) xb X (.int .i64 (wrRE n R x.sl x.at_ sq))) := fun W Sa Sb Ma h => h.doQ (kt_write h.q x.sl x.at_ sq (by omega) hVO)
           have hV2 : Inv n (wrR n R x.sl x.at_ sq) (k + 1) := ⟨hV.1.wr _ _ _, hV.2.wr _ _ _⟩
           obtain ⟨E0, hE0⟩ : ∃ e, wrRE n R x.sl x.at_ sq = e := ⟨_, rfl⟩
           rw [hE0] at cA cQ
           have hee : (E0 == E0) = true := beq_self_eq_true _
           obtain ⟨M2, hM2⟩ : ∃ e, wrR n R x.sl x.at_ sq = e := ⟨_, rfl⟩
           rw [hM2] at cA cQ hV2
           clear hE0 hM2
           have hPd := hP.drew
           clear hVO hV
           go_wp2_with (fail)
           go_region_held3 (fun V => V.cell? ⟨xb, 1, none⟩ = some (.int .i64 x.sl) ∧ V.cell? ⟨xb, 2, none⟩ = some (.int .i64 x.at_) ∧ V.cell? ⟨xb, 3, none⟩ = some (.int .i64 x.n)) (first | exact ⟨hS1.out _ _ _ _ _ (by assumption), hS2.out _ _ _ _ _ (by assumption), hS3.out _ _ _ _ _ (by assumption)⟩) (first
             | (go_at_call 11; refine (cS _).mono ?_; rintro e w7 ⟨rfl, b7⟩; have p7 := P9.after (by assumption) b7)
             | (go_at_call 41; refine (cA _ _ _ _ (by assumption)).mono ?_; rintro e w7 ⟨rfl, S7, p7⟩)
             | (go_at_call 42; refine (cQ _ _ _ _ (by assumption)).mono ?_; rintro e w7 ⟨rfl, S7, p7⟩))
           all_goals
             go_wp2_with (fail)
             go_meet
             exact ⟨rfl, _, _, _, (by assumption), hV2⟩
       · as_aux_lemma =>
           have cA : ∀ W Sa Sb Mq, P9 w1 Sa Sb W ka kb n R Mq xb X → Calls Try.prog 43 #[.pointer (some ⟨ka, 0, none⟩), .int .i64 x.sl] W (DoesRA w1 Sb ka kb n (flR n R x.sl) Mq xb X (.int .i64 (flRE n R x.sl))) := fun W Sa Sb Mq h => h.doA (rt_flush h.a x.sl hVO)
           have cQ : ∀ W Sa Sb Ma, P9 w1 Sa Sb W ka kb n Ma R xb X → Calls Try.prog 44 #[.pointer (some ⟨kb, 0, none⟩), .int .i64 x.sl] W (DoesRQ w1 Sa ka kb n Ma (flR n R x.sl) xb X (.int .i64 (flRE n R x.sl))) := fun W Sa Sb Ma h => h.doQ (kt_flush h.q x.sl hVO)
           have hV2 : Inv n (flR n R x.sl) (k + 1) := ⟨hV.1.fl _, hV.2.fl _⟩
           obtain ⟨E0, hE0⟩ : ∃ e, flRE n R x.sl = e := ⟨_, rfl⟩
           rw [hE0] at cA cQ
           have hee : (E0 == E0) = true := beq_self_eq_true _
           obtain ⟨M2, hM2⟩ : ∃ e, flR n R x.sl = e := ⟨_, rfl⟩
           rw [hM2] at cA cQ hV2
           clear hE0 hM2
           have hPd := hP.drew
           clear hVO hV
           go_wp2_with (fail)
           go_region_held3 (fun V => V.cell? ⟨xb, 1, none⟩ = some (.int .i64 x.sl)) (first | exact hS1.out _ _ _ _ _ (by assumption)) (first
             | (go_at_call 43; refine (cA _ _ _ _ (by assumption)).mono ?_; rintro e w7 ⟨rfl, S7, p7⟩)
             | (go_at_call 44; refine (cQ _ _ _ _ (by assumption)).mono ?_; rintro e w7 ⟨rfl, S7, p7⟩))
           all_goals
             go_wp2_with (fail)
             go_meet
             exact ⟨rfl, _, _, _, (by assumption), hV2⟩
       · as_aux_lemma =>
           have cA : ∀ W Sa Sb Mq, P9 w1 Sa Sb W ka kb n R Mq xb X → Calls Try.prog 43 #[.pointer (some ⟨ka, 0, none⟩), .int .i64 x.sl] W (DoesRA w1 Sb ka kb n (flR n R x.sl) Mq xb X (.int .i64 (flRE n R x.sl))) := fun W Sa Sb Mq h => h.doA (rt_flush h.a x.sl hVO)
           have cQ : ∀ W Sa Sb Ma, P9 w1 Sa Sb W ka kb n Ma R xb X → Calls Try.prog 44 #[.pointer (some ⟨kb, 0, none⟩), .int .i64 x.sl] W (DoesRQ w1 Sa ka kb n Ma (flR n R x.sl) xb X (.int .i64 (flRE n R x.sl))) := fun W Sa Sb Ma h => h.doQ (kt_flush h.q x.sl hVO)
           have hV2 : Inv n (flR n R x.sl) (k + 1) := ⟨hV.1.fl _, hV.2.fl _⟩
           obtain ⟨E0, hE0⟩ : ∃ e, flRE n R x.sl = e := ⟨_, rfl⟩
           rw [hE0] at cA cQ
           have hee : (E0 == E0) = true := beq_self_eq_true _
           obtain ⟨M2, hM2⟩ : ∃ e, flR n R x.sl = e := ⟨_, rfl⟩
           rw [hM2] at cA cQ hV2
           clear hE0 hM2
           have hPd := hP.drew
           clear hVO hV
           go_wp2_with (fail)
           go_region_held3 (fun V => V.cell? ⟨xb, 1, none⟩ = some (.int .i64 x.sl)) (first | exact hS1.out _ _ _ _ _ (by assumption)) (first
             | (go_at_call 43; refine (cA _ _ _ _ (by assumption)).mono ?_; rintro e w7 ⟨rfl, S7, p7⟩)
             | (go_at_call 44; refine (cQ _ _ _ _ (by assumption)).mono ?_; rintro e w7 ⟨rfl, S7, p7⟩))
           all_goals
             go_wp2_with (fail)
             go_meet
             exact ⟨rfl, _, _, _, (by assumption), hV2⟩
       · as_aux_lemma =>
           have cA : ∀ W Sa Sb Mq, P9 w1 Sa Sb W ka kb n R Mq xb X → Calls Try.prog 45 #[.pointer (some ⟨ka, 0, none⟩), .int .i64 x.n] W (DoesRA w1 Sb ka kb n (arR R x.n) Mq xb X (.int .i64 (arE x.n))) := fun W Sa Sb Mq h => h.doA (rt_arm h.a x.n)
           have cQ : ∀ W Sa Sb Ma, P9 w1 Sa Sb W ka kb n Ma R xb X → Calls Try.prog 46 #[.pointer (some ⟨kb, 0, none⟩), .int .i64 x.n] W (DoesRQ w1 Sa ka kb n Ma (arR R x.n) xb X (.int .i64 (arE x.n))) := fun W Sa Sb Ma h => h.doQ (kt_arm h.q x.n hVO)
           have hV2 : Inv n (arR R x.n) (k + 1) := ⟨(hV.1.ar _).le (by omega), hV.2.ar _⟩
           obtain ⟨E0, hE0⟩ : ∃ e, arE x.n = e := ⟨_, rfl⟩
           rw [hE0] at cA cQ
           have hee : (E0 == E0) = true := beq_self_eq_true _
           obtain ⟨M2, hM2⟩ : ∃ e, arR R x.n = e := ⟨_, rfl⟩
           rw [hM2] at cA cQ hV2
           clear hE0 hM2
           have hPd := hP.drew
           clear hVO hV
           go_wp2_with (fail)
           go_region_held3 (fun V => V.cell? ⟨xb, 3, none⟩ = some (.int .i64 x.n)) (first | exact hS3.out _ _ _ _ _ (by assumption)) (first
             | (go_at_call 45; refine (cA _ _ _ _ (by assumption)).mono ?_; rintro e w7 ⟨rfl, S7, p7⟩)
             | (go_at_call 46; refine (cQ _ _ _ _ (by assumption)).mono ?_; rintro e w7 ⟨rfl, S7, p7⟩))
           all_goals
             go_wp2_with (fail)
             go_meet
             exact ⟨rfl, _, _, _, (by assumption), hV2⟩
       · as_aux_lemma =>
           have hcC : ∀ W Sa Sb Ma Mq, P9 w1 Sa Sb W ka kb n Ma Mq xb X → ChR W (.slice ca cn ccp) x.l ∧ ChA (.slice ca cn ccp) x.l Sa ∧ ChA (.slice ca cn ccp) x.l Sb := fun W Sa Sb Ma Mq h => ⟨hC.below (RA.b h.a), hC.old (RA.from h.a), hC.old h.q.f⟩
           have cA : ∀ W Sa Sb Mq, P9 w1 Sa Sb W ka kb n R Mq xb X → Calls Try.prog 47 #[.pointer (some ⟨ka, 0, none⟩), .slice ca cn ccp] W (DoesRA w1 Sb ka kb n (reR R x.l) Mq xb X (.tuple #[])) := fun W Sa Sb Mq h => h.doA (rt_restart h.a _ x.l (hcC _ _ _ _ _ h).1 (hcC _ _ _ _ _ h).2.1 hCn hVO)
           have cQ : ∀ W Sa Sb Ma, P9 w1 Sa Sb W ka kb n Ma R xb X → Calls Try.prog 48 #[.pointer (some ⟨kb, 0, none⟩), .slice ca cn ccp] W (DoesRQ w1 Sa ka kb n Ma (reR R x.l) xb X (.tuple #[])) := fun W Sa Sb Ma h => h.doQ (kt_restart h.q _ x.l (hcC _ _ _ _ _ h).1 (hcC _ _ _ _ _ h).2.2 hCn hVO)
           have hV2 : Inv n (reR R x.l) (k + 1) := ⟨(hV.1.re _).le (by omega), hV.2.re _⟩
           have e4 := hS4.out _ _ _ _ _ hP
           clear hcC hVO hV hC hCn
           go_wp2_with (fail)
           refine (cA _ _ _ _ hP).mono ?_
           rintro e w4 ⟨rfl, S4, p4⟩
           have e44 := hS4.out _ _ _ _ _ p4
           go_wp2_with (fail)
           refine (cQ _ _ _ _ p4).mono ?_
           rintro e w5 ⟨rfl, S5, p5⟩
           go_wp2_with (fail)
           go_meet
           exact ⟨rfl, _, _, _, p5, hV2⟩
       · as_aux_lemma =>
           have cA : ∀ W Sa Sb Mq, P9 w1 Sa Sb W ka kb n R Mq xb X → Calls Try.prog 49 #[.pointer (some ⟨ka, 0, none⟩), .int .i64 x.sl] W (DoesRA w1 Sb ka kb n (upR n R x.sl faM) Mq xb X (.bool (hasK n x.sl))) := fun W Sa Sb Mq h => h.doA (rt_fail h.a x.sl)
           have cQ : ∀ W Sa Sb Ma, P9 w1 Sa Sb W ka kb n Ma R xb X → Calls Try.prog 50 #[.pointer (some ⟨kb, 0, none⟩), .int .i64 x.sl] W (DoesRQ w1 Sa ka kb n Ma (upR n R x.sl faM) xb X (.bool (hasK n x.sl))) := fun W Sa Sb Ma h => h.doQ (kt_fail h.q x.sl)
           have hV2 : Inv n (upR n R x.sl faM) (k + 1) := ⟨(hV.1.up _ _ (fun M h => Vn.none _ _ _)).le (by omega), hV.2.up _ _ (fun M => List.length_replicate)⟩
           obtain ⟨E0, hE0⟩ : ∃ e, hasK n x.sl = e := ⟨_, rfl⟩
           rw [hE0] at cA cQ
           have hee : (E0 == E0) = true := beq_self_eq_true _
           obtain ⟨M2, hM2⟩ : ∃ e, upR n R x.sl faM = e := ⟨_, rfl⟩
           rw [hM2] at cA cQ hV2
           clear hE0 hM2
           have hPd := hP.drew
           clear hVO hV
           go_wp2_with (fail)
           go_region_held3 (fun V => V.cell? ⟨xb, 1, none⟩ = some (.int .i64 x.sl)) (first | exact hS1.out _ _ _ _ _ (by assumption)) (first
             | (go_at_call 49; refine (cA _ _ _ _ (by assumption)).mono ?_; rintro e w7 ⟨rfl, S7, p7⟩)
             | (go_at_call 50; refine (cQ _ _ _ _ (by assumption)).mono ?_; rintro e w7 ⟨rfl, S7, p7⟩))
           all_goals
             go_wp2_with (fail)
             go_meet
             exact ⟨rfl, _, _, _, (by assumption), hV2⟩
       · as_aux_lemma =>
           have cA : ∀ W Sa Sb Mq, P9 w1 Sa Sb W ka kb n R Mq xb X → Calls Try.prog 51 #[.pointer (some ⟨ka, 0, none⟩), .int .i64 x.sl] W (DoesRA w1 Sb ka kb n (upR n R x.sl blM) Mq xb X (.bool (hasK n x.sl))) := fun W Sa Sb Mq h => h.doA (rt_blank h.a x.sl)
           have cQ : ∀ W Sa Sb Ma, P9 w1 Sa Sb W ka kb n Ma R xb X → Calls Try.prog 52 #[.pointer (some ⟨kb, 0, none⟩), .int .i64 x.sl] W (DoesRQ w1 Sa ka kb n Ma (upR n R x.sl blM) xb X (.bool (hasK n x.sl))) := fun W Sa Sb Ma h => h.doQ (kt_blank h.q x.sl)
           have hV2 : Inv n (upR n R x.sl blM) (k + 1) := ⟨(hV.1.up _ _ (fun M h => Vn.none _ _ _)).le (by omega), hV.2.up _ _ (fun M => List.length_replicate)⟩
           obtain ⟨E0, hE0⟩ : ∃ e, hasK n x.sl = e := ⟨_, rfl⟩
           rw [hE0] at cA cQ
           have hee : (E0 == E0) = true := beq_self_eq_true _
           obtain ⟨M2, hM2⟩ : ∃ e, upR n R x.sl blM = e := ⟨_, rfl⟩
           rw [hM2] at cA cQ hV2
           clear hE0 hM2
           have hPd := hP.drew
           clear hVO hV
           go_wp2_with (fail)
           go_region_held3 (fun V => V.cell? ⟨xb, 1, none⟩ = some (.int .i64 x.sl)) (first | exact hS1.out _ _ _ _ _ (by assumption)) (first
             | (go_at_call 51; refine (cA _ _ _ _ (by assumption)).mono ?_; rintro e w7 ⟨rfl, S7, p7⟩)
             | (go_at_call 52; refine (cQ _ _ _ _ (by assumption)).mono ?_; rintro e w7 ⟨rfl, S7, p7⟩))
           all_goals
             go_wp2_with (fail)
             go_meet
             exact ⟨rfl, _, _, _, (by assumption), hV2⟩
       · as_aux_lemma =>
           obtain ⟨jc, hjc⟩ : ∃ jc : Int, (jb : Int) - 1 = jc := ⟨_, rfl⟩
           have wjc : IntKind.i64.wrap ((jb : Int) - 1) = jc := by rw [hjc]; exact wrap_in (by omega) (by omega)
           clear hjc
           have cA : ∀ W Sa Sb Mq, P9 w1 Sa Sb W ka kb n R Mq xb X → Calls Try.prog 53 #[.pointer (some ⟨ka, 0, none⟩), .int .i64 x.sl, .int .i64 x.at_, .int .i64 jc, .int .i64 x.n] W (DoesRA w1 Sb ka kb n (upR n R x.sl fun M => roM M x.at_ jc x.n) Mq xb X (.bool (roRB n R x.sl x.at_ jc x.n))) := fun W Sa Sb Mq h => h.doA (rt_rot h.a x.sl x.at_ jc x.n i2)
           have cQ : ∀ W Sa Sb Ma, P9 w1 Sa Sb W ka kb n Ma R xb X → Calls Try.prog 54 #[.pointer (some ⟨kb, 0, none⟩), .int .i64 x.sl, .int .i64 x.at_, .int .i64 jc, .int .i64 x.n] W (DoesRQ w1 Sa ka kb n Ma (upR n R x.sl fun M => roM M x.at_ jc x.n) xb X (.bool (roRB n R x.sl x.at_ jc x.n))) := fun W Sa Sb Ma h => h.doQ (kt_rot h.q x.sl x.at_ jc x.n)
           have hV2 : Inv n (upR n R x.sl fun M => roM M x.at_ jc x.n) (k + 1) := ⟨(hV.1.up _ _ (fun M h => h.ro _ _ _)).le (by omega), hV.2.up _ _ (fun M => roM_len _ _ _ _)⟩
           obtain ⟨E0, hE0⟩ : ∃ e, roRB n R x.sl x.at_ jc x.n = e := ⟨_, rfl⟩
           rw [hE0] at cA cQ
           have hee : (E0 == E0) = true := beq_self_eq_true _
           obtain ⟨M2, hM2⟩ : ∃ e, (upR n R x.sl fun M => roM M x.at_ jc x.n) = e := ⟨_, rfl⟩
           rw [hM2] at cA cQ hV2
           clear hE0 hM2
           have hPd := hP.drew
           clear hVO hV
           go_wp2_with (fail)
           go_region_held3 (fun V => V.cell? ⟨xb, 1, none⟩ = some (.int .i64 x.sl) ∧ V.cell? ⟨xb, 2, none⟩ = some (.int .i64 x.at_) ∧ V.cell? ⟨xb, 3, none⟩ = some (.int .i64 x.n)) (first | exact ⟨hS1.out _ _ _ _ _ (by assumption), hS2.out _ _ _ _ _ (by assumption), hS3.out _ _ _ _ _ (by assumption)⟩) (first
             | (go_at_call 40; refine (cpb _).mono ?_; rintro e w' ⟨rfl, rfl⟩)
             | (go_at_call 53; refine (cA _ _ _ _ (by assumption)).mono ?_; rintro e w7 ⟨rfl, S7, p7⟩)
             | (go_at_call 54; refine (cQ _ _ _ _ (by assumption)).mono ?_; rintro e w7 ⟨rfl, S7, p7⟩))
           all_goals
             go_wp2_with (fail)
             go_meet
             exact ⟨rfl, _, _, _, (by assumption), hV2⟩
       · as_aux_lemma =>
           go_wp2_with (fail)
           go_meet
           exact ⟨rfl, _, _, _, hP, hV.1.le (by omega), hV.2⟩
       · as_aux_lemma =>
           go_wp2_with (fail)
           go_meet
           exact ⟨rfl, _, _, _, hP, hV.1.le (by omega), hV.2⟩
       · as_aux_lemma =>
           go_wp2_with (fail)
           go_meet
           exact ⟨rfl, _, _, _, hP, hV.1.le (by omega), hV.2⟩
      case rest =>
      obtain ⟨rfl, Sa', Sb', R', hP', hV'⟩ := hcut
      clear hP cS cpb hS3 hS4 hVO hV hC hCn hs8 ht12 hjb8
      as_aux_lemma =>
        have hVO : ROk n R' 1000000000000 := hV'.1.le (by omega)
        have cRa : ∀ W Sa Sb, P9 w1 Sa Sb W ka kb n R' R' xb X → Calls Try.prog 55 #[.pointer (some ⟨ka, 0, none⟩), .int .i64 x.sl, .int .i64 x.at_] W fun e w' => e = .returned (.tuple #[.string (rdRS n R' x.sl x.at_), .int .i64 (rdRE n R' x.sl x.at_)]) ∧ Below W.heap.size W w' := fun W Sa Sb h => rt_read h.a x.sl x.at_ hVO
        have cRq : ∀ W Sa Sb, P9 w1 Sa Sb W ka kb n R' R' xb X → Calls Try.prog 56 #[.pointer (some ⟨kb, 0, none⟩), .int .i64 x.sl, .int .i64 x.at_] W fun e w' => e = .returned (.tuple #[.string (rdRS n R' x.sl x.at_), .int .i64 (rdRE n R' x.sl x.at_)]) ∧ W = w' := fun W Sa Sb h => kt_read h.q x.sl x.at_ hVO
        have cAa : ∀ W Sa Sb, P9 w1 Sa Sb W ka kb n R' R' xb X → Calls Try.prog 57 #[.pointer (some ⟨ka, 0, none⟩), .int .i64 x.sl] W fun e w' => e = .returned (.bool (alR n R' x.sl)) ∧ W = w' := fun W Sa Sb h => rt_alive h.a x.sl
        have cAq : ∀ W Sa Sb, P9 w1 Sa Sb W ka kb n R' R' xb X → Calls Try.prog 58 #[.pointer (some ⟨kb, 0, none⟩), .int .i64 x.sl] W fun e w' => e = .returned (.bool (alR n R' x.sl)) ∧ W = w' := fun W Sa Sb h => kt_alive h.q x.sl
        have cPa : ∀ W Sa Sb, P9 w1 Sa Sb W ka kb n R' R' xb X → Calls Try.prog 59 #[.pointer (some ⟨ka, 0, none⟩), .int .i64 x.sl] W fun e w' => e = .returned (.int .i64 (peR n R' x.sl)) ∧ Below W.heap.size W w' := fun W Sa Sb h => rt_pending h.a x.sl
        have cPq : ∀ W Sa Sb, P9 w1 Sa Sb W ka kb n R' R' xb X → Calls Try.prog 60 #[.pointer (some ⟨kb, 0, none⟩), .int .i64 x.sl] W fun e w' => e = .returned (.int .i64 (peR n R' x.sl)) ∧ Below W.heap.size W w' := fun W Sa Sb h => kt_pending h.q x.sl
        have cIa : ∀ W Sa Sb, P9 w1 Sa Sb W ka kb n R' R' xb X → Calls Try.prog 61 #[.pointer (some ⟨ka, 0, none⟩), .int .i64 x.sl] W (GivesQ W (imR n R' x.sl)) := fun W Sa Sb h => rt_image h.a x.sl
        have cIq : ∀ W Sa Sb, P9 w1 Sa Sb W ka kb n R' R' xb X → Calls Try.prog 62 #[.pointer (some ⟨kb, 0, none⟩), .int .i64 x.sl] W (GivesQ W (imR n R' x.sl)) := fun W Sa Sb h => kt_image h.q x.sl
        obtain ⟨RS0, hR⟩ : ∃ r, rdRS n R' x.sl x.at_ = r := ⟨_, rfl⟩
        obtain ⟨E0, hE0⟩ : ∃ r, rdRE n R' x.sl x.at_ = r := ⟨_, rfl⟩
        rw [hR, hE0] at cRa cRq
        have tq : (RS0.toList != RS0.toList) = false := bne_self_eq_false _
        have tq' : (RS0.toList == RS0.toList) = true := beq_self_eq_true _
        have te : (E0 != E0) = false := bne_self_eq_false _
        obtain ⟨A0, hA0⟩ : ∃ r, alR n R' x.sl = r := ⟨_, rfl⟩
        rw [hA0] at cAa cAq
        have ta : (A0 != A0) = false := bne_self_eq_false _
        obtain ⟨Z0, hZ0⟩ : ∃ r : Int, peR n R' x.sl = r := ⟨_, rfl⟩
        rw [hZ0] at cPa cPq
        have tz : (Z0 != Z0) = false := bne_self_eq_false _
        clear hA0 hZ0 hR hE0 hVO
        obtain ⟨IL, hIL⟩ : ∃ r, imR n R' x.sl = r := ⟨_, rfl⟩
        rw [hIL] at cIa cIq
        clear hIL
        have ti : ((IL.length : Int) != (IL.length : Int)) = false := bne_self_eq_false _
        have e1 := hS1.out _ _ _ _ _ hP'
        have e2 := hS2.out _ _ _ _ _ hP'
        go_wp2_with (fail)
        refine (cRa _ _ _ hP').mono ?_
        rintro e w4 ⟨rfl, b4⟩
        have p4 := hP'.after b4
        have e14 := hS1.out _ _ _ _ _ p4
        have e24 := hS2.out _ _ _ _ _ p4
        clear hP' cRa
        go_wp2_with (fail)
        refine (cRq _ _ _ p4).mono ?_
        rintro e w' ⟨rfl, rfl⟩
        have p5 := p4.drew
        clear cRq b4
        go_wp2_with (fail)
        go_region_held3 (fun V => V.cell? ⟨xb, 1, none⟩ = some (.int .i64 x.sl)) (first | exact hS1.out _ _ _ _ _ (by assumption)) (first
          | (go_at_call 57; refine (cAa _ _ _ (by assumption)).mono ?_; rintro e w' ⟨rfl, rfl⟩)
          | (go_at_call 58; refine (cAq _ _ _ (by assumption)).mono ?_; rintro e w' ⟨rfl, rfl⟩)
          | (go_at_call 59; refine (cPa _ _ _ (by assumption)).mono ?_; rintro e w7 ⟨rfl, b7⟩; have p7 := P9.after (by assumption) b7)
          | (go_at_call 60; refine (cPq _ _ _ (by assumption)).mono ?_; rintro e w8 ⟨rfl, b8⟩; have p8 := P9.after (by assumption) b8)
          | (go_at_call 61; refine (cIa _ _ _ (by assumption)).mono ?_; rintro e wA ⟨uA, rfl, bA, oA⟩; have pA := P9.after (by assumption) bA; have lA := fun W => oA.reads.len_run (P := Try.prog) Try.underlying47 3 W; rw [List.length_map] at lA)
          | (go_at_call 62; refine (cIq _ _ _ (by assumption)).mono ?_; rintro e wB ⟨uB, rfl, bB, oB⟩; have pB := P9.after (by assumption) bB; have lB := fun W => oB.reads.len_run (P := Try.prog) Try.underlying47 3 W; rw [List.length_map] at lB))
        all_goals
          have hrel2 := Lib.hid (And.intro (P9'.mk pB.a pB.q pB.d) hV')
          go_wp2_with (fail)
          go_roundw
          case rel => exact ⟨k + 1, by omega, by omega, by go_num, _, _, _, hrel2.out⟩
          case measure => simp [intOf]; omega
    · have hcd : ((k : Int) < (la.length : Int) ∧ ¬ ((k : Int) < 100)) ∨ ¬ ((k : Int) < (la.length : Int)) := by omega
      have hfin : Hid (∃ (Sa Sb : Nat → Prop) (R : Rk), P9' w1 Sa Sb wr ka kb n R ∧ LOk n R) := Lib.hid ⟨Sa, Sb, R, ⟨ha, hq, hd⟩, hV.2⟩
      clear ha hq hd hlt
      rcases hcd with ⟨kx, k50⟩ | kx
      · go_wp2_with (fail)
        go_meet
        exact hfin.out
      · go_wp2_with (fail)
        go_meet
        exact hfin.out
  case rest =>
  obtain ⟨Sa, Sb, R, hP, hL⟩ := hcut
  have cs := same9k_any hP hnn hL
  have hb := RA.b hP.a
  clear hrel0 hR1 hQ2
  go_wp2_with (fail)
  refine cs.mono ?_
  rintro e w9 ⟨rfl, b9⟩
  go_wp2_with (fail)
  go_ret
  exact ⟨rfl, hb1H.out.trans ((below_c hb b9).mono hb1H.out.size)⟩
end Go.Proofs.Ytofhmdbilhdblaa
