/- rack: RackApart. -/
import Derived.Test.YtofhmdbilhdblaaRackLaw1
import Derived.Test.YtofhmdbilhdblaaRackActs
import Derived.Deep.CutBlock
namespace Go.Proofs.Ytofhmdbilhdblaa
open Go.RowKit
set_option linter.unusedVariables false
set_option linter.unusedSimpArgs false
set_option maxRecDepth 100000

theorem upd_upd {α : Type} (f : Nat → α) (i : Nat) (u v : α) : upd (upd f i u) i v = upd f i v := by
  funext j; unfold upd; by_cases e : j = i
  · rw [if_pos e, if_pos e]
  · rw [if_neg e, if_neg e, if_neg e]
/-- Flushed as far as j. -/
def MidM (M : Nat → Mst) (n j : Nat) : Prop := ∀ i, i < n → ∃ L V, M i = ⟨false, L, V⟩ ∧ L.length = 6 ∧ (∀ z, (V z).length ≤ 60) ∧ (i < j → V = noV)
theorem MidM.flush {M : Nat → Mst} {n j : Nat} (h : MidM M n j) {L : List ByteArray} (V : Int → List ByteArray) (hL : L.length = 6) : MidM (upd M j ⟨false, Go.Proofs.Ytofhmdbilhdblaa.flush L V, noV⟩) n (j + 1) := fun i hi => by
  by_cases e : i = j
  · subst e
    exact ⟨_, _, upd_same _ _ _, by rw [flushN_len]; exact hL, fun z => by simp [noV], fun _ => rfl⟩
  · obtain ⟨L', V', h1, h2, h3, h4⟩ := h i hi
    exact ⟨L', V', by rw [upd_other _ _ _ _ e]; exact h1, h2, h3, fun h5 => h4 (by omega)⟩
set_option maxHeartbeats 8000000 in
theorem apart_walk (a0 : Int) (v : Value) (ls : List Int) (a2 : Int) (v3 : Value) (la : List Ac9) (w : World) (n0 : -9223372036854775808 ≤ a0 ∧ a0 ≤ 9223372036854775807) (hR : Reads w v (ls.map (.int .i64))) (hF : ∀ n ∈ ls, (Lit.int .i64 n).wf = true)
    (n2 : -9223372036854775808 ≤ a2 ∧ a2 ≤ 9223372036854775807) (hA3 : ActsR w v3 la) :
    Calls Try.prog 5 #[.int .i64 a0, v, .int .i64 a2, v3] w (Ends w true) := by
  have hIn : ∀ k, k < ls.length → In64 (ls.getD k 0) := fun k hk => by
    rw [List.getD_eq_getElem?_getD, List.getElem?_eq_getElem hk]; exact hF _ (List.getElem_mem hk)
  have hlenv := fun W => hR.len_run (P := Try.prog) Try.underlying31 3 W
  rw [List.length_map] at hlenv
  have hlena := fun W => hA3.1.len_run (P := Try.prog) Try.underlying50 3 W
  obtain ⟨r, hr⟩ : ∃ r, pickC a0 % 6 = r := ⟨_, rfl⟩
  have hr6 : r < 6 := by rw [← hr]; exact Nat.mod_lt _ (by omega)
  have cp0 : ∀ W, Calls Try.prog 40 #[.int .i64 a0, .int .i64 6] W fun e w' => e = .returned (.int .i64 (r : Int)) ∧ W = w' := fun W => by
    have := pick9_any a0 6 (in64_iff.2 n0) (by omega) (by omega) W
    rw [hr] at this; exact this
  obtain ⟨nn, hnn⟩ : ∃ nn, r + 2 = nn := ⟨_, rfl⟩
  have hn7 : nn ≤ 7 := by omega
  have hn2' : 2 ≤ nn := by omega
  have wn : IntKind.i64.wrap (2 + (r : Int)) = (nn : Int) := wrap_add _ _ (by omega) (by omega) (by omega)
  obtain ⟨one, hone⟩ : ∃ o, pickC a2 % nn = o := ⟨_, rfl⟩
  have h1n : one < nn := by rw [← hone]; exact Nat.mod_lt _ (by omega)
  have cp1 : ∀ W, Calls Try.prog 40 #[.int .i64 a2, .int .i64 (nn : Int)] W fun e w' => e = .returned (.int .i64 (one : Int)) ∧ W = w' := fun W => by
    have := pick9_any a2 nn (in64_iff.2 n2) (by omega) (by omega) W
    rw [hone] at this; exact this
  have cN : ∀ W, Calls Try.prog 38 #[.int .i64 (nn : Int), .int .i64 6] W fun e w' => ∃ S k, e = .returned (.tuple #[.pointer (some ⟨k, 0, none⟩), .int .i64 0]) ∧ RS W S w' k nn (blankM 6) false 0 0 := fun W => rs_new nn 6 W (by omega) (by omega) (by omega) (by omega)
  clear hF n0 n2 hr hr6 hnn hone
  go_enter Try.func5, Try.ntmps5
  go_wp2_with (fail)
  refine (awake9_any _).mono ?_
  rintro e w1 ⟨rfl, b1⟩
  have hR1 := hR.below b1
  have hQ1 := hA3.1.below b1
  have hQ2 : ∀ x ∈ la, In64 x.wh ∧ In64 x.sl ∧ In64 x.at_ ∧ In64 x.n := fun x hx => (hA3.2.1 x hx).1
  go_wp2_with (fail)
  refine (cp0 _).mono ?_
  rintro e w' ⟨rfl, rfl⟩
  go_wp2_with (fail)
  refine (cp1 _).mono ?_
  rintro e w' ⟨rfl, rfl⟩
  go_wp2_with (fail)
  refine (cN _).mono ?_
  rintro e w2 ⟨S0, kk, rfl, h1⟩
  have hb1H := Lib.hid b1
  clear b1 cN hR hA3 cp0 cp1 wn
  go_upto_block 0 with (fail)
  go_cut [13] from 42 to 66 (fun _ wx => ∃ (S : Nat → Prop) (M : Nat → Mst) (A : Int), (0 ≤ A ∧ A ≤ 60) ∧ RS w1 S wx kk nn M false A 0 ∧ MidM M nn 0)
  case first =>
   go_wp2_with (fail)
   go_loopw [13] (fun t wr => ∃ (k : Nat) (S : Nat → Prop) (M : Nat → Mst), k ≤ 60 ∧ k ≤ ls.length ∧ t = .int .i64 (k : Int) ∧ RS w1 S wr kk nn M false (k : Int) 0 ∧ GoodM M nn 6 k) (fun t _ => 60 - (intOf t).toNat)
   case atStart => exact ⟨0, S0, _, by omega, by omega, rfl, h1, GoodM.start nn 6 0⟩
   case round =>
     clear h1
     obtain ⟨k, S, M, hk50, hkl, rfl, hB, hG⟩ := hrel
     by_cases hlt : k < ls.length ∧ k < 60
     · obtain ⟨hl1, hl2⟩ := hlt
       obtain ⟨va, vcap, rfl, vcell⟩ := hR1.nums
       obtain ⟨cb, co, rfl, clt1, cc1⟩ := vcell k hl1
       have hcI := hIn k hl1
       obtain ⟨c, hc⟩ : ∃ c, ls.getD k 0 = c := ⟨_, rfl⟩
       rw [hc] at hcI cc1
       have cc0 := (hB.b.cell (p := ⟨cb, co + k, none⟩) clt1).trans cc1
       have clt := Nat.lt_of_lt_of_le clt1 hB.b.size
       obtain ⟨d, hd⟩ : ∃ r, pickC c % nn = r := ⟨_, rfl⟩
       have hdn : d < nn := by rw [← hd]; exact Nat.mod_lt _ (by omega)
       have cpd : ∀ W, Calls Try.prog 40 #[.int .i64 c, .int .i64 (nn : Int)] W fun e w' => e = .returned (.int .i64 (d : Int)) ∧ W = w' := fun W => by
         have := pick9_any c nn hcI (by omega) (by omega) W
         rw [hd] at this; exact this
       obtain ⟨a, ha⟩ : ∃ r, pickC (k : Int) % 6 = r := ⟨_, rfl⟩
       have ha6 : a < 6 := by rw [← ha]; exact Nat.mod_lt _ (by omega)
       have cpa : ∀ W, Calls Try.prog 40 #[.int .i64 (k : Int), .int .i64 6] W fun e w' => e = .returned (.int .i64 (a : Int)) ∧ W = w' := fun W => by
         have := pick9_any (k : Int) 6 (in64_iff.2 (by omega)) (by omega) (by omega) W
         rw [ha] at this; exact this
       have cS := fun W => sector_q9 c hcI W
       have k1 : (k : Int) < (ls.length : Int) := by omega
       have k2 : (k : Int) < 60 := by omega
       obtain ⟨L, V, hM, hL6, hVk⟩ := hG d hdn
       clear vcell hd ha hQ1 hQ2
       go_wp2_with (fail)
       refine wp_region_cls_tail (Below wr.heap.size wr) 14 (by kernel_rfl) (by kernel_rfl) (Below.refl _ _).drew ?_
       intro Z f hne hD hE
       have r1 : ∀ z, (f z).cell? ⟨cb, co + k, none⟩ = some (.int .i64 c) := fun z => (clsCell hD z _ _ clt).trans cc0
       simp only [List.take_succ_cons, List.take_zero, List.drop_succ_cons, List.drop_zero]
       iterate 14 (go_big_quiet_step (first | (go_at_call 40; first | with_reducible exact toQ _ (cpd _) | with_reducible exact toQ _ (cpa _)) | (go_at_call 11; with_reducible exact toQB hD hE _ (cS _))))
       refine wpQuiet_nil ?_
       intro _ hw'
       obtain ⟨zq, hw''⟩ := hw'
       subst hw''
       have hB2 := hB.after (hD zq)
       obtain ⟨wz, hwz⟩ : ∃ wz, f zq = wz := ⟨_, rfl⟩
       rw [hwz] at hB2 ⊢
       clear r1 hE hD hwz zq hB
       have cW := rs_write hB2 d hdn (by omega) (by omega) (by omega) hM a (by omega) (sec c) (sec_size c) (by have := hVk a; omega)
       clear cc0 clt hB2
       go_wp2_with (fail)
       refine cW.mono ?_
       rintro e w6 ⟨S6, rfl, _, hB3⟩
       have hB4 : RS w1 S6 w6 kk nn (upd M d ⟨false, L, updZ V (a : Int) (V (a : Int) ++ [sec c])⟩) false ((k + 1 : Nat) : Int) 0 := by
         have e : ((k + 1 : Nat) : Int) = (k : Int) + 1 := by omega
         rw [e]; rw [nxt0] at hB3; exact hB3
       have hG4 := hG.write d hL6 hVk (a : Int) (sec c)
       generalize upd M d ⟨false, L, updZ V (a : Int) (V (a : Int) ++ [sec c])⟩ = M4 at *
       clear hB3 hM hL6 hVk hG cW
       go_wp2_with (fail)
       go_roundw
       case rel => exact ⟨k + 1, S6, M4, by omega, by omega, by go_num, hB4, hG4⟩
       case measure => simp [intOf]; omega
     · have hcd : ((k : Int) < (ls.length : Int) ∧ ¬ ((k : Int) < 60)) ∨ ¬ ((k : Int) < (ls.length : Int)) := by omega
       have hMid : MidM M nn 0 := fun i hi => by
         obtain ⟨L, V, h1, h2, h3⟩ := hG i hi
         exact ⟨L, V, h1, h2, fun z => by have := h3 z; omega, fun h => absurd h (Nat.not_lt_zero _)⟩
       have hfin := Lib.hid (And.intro hB hMid)
       clear hIn hlt hR1 hG hB hMid
       rcases hcd with ⟨kx, k50⟩ | kx
       · go_wp2_with (fail)
         go_meet
         exact ⟨S, M, _, ⟨by omega, by omega⟩, hfin.out⟩
       · go_wp2_with (fail)
         go_meet
         exact ⟨S, M, _, ⟨by omega, by omega⟩, hfin.out⟩
  case rest =>
  clear h1 hIn hR1
  obtain ⟨S, M, A0, hA0, hB, hMid⟩ := hcut
  go_wp2_with (fail)
  go_loopw [14] (fun t wr => ∃ (j : Nat) (S : Nat → Prop) (M : Nat → Mst) (A : Int), j ≤ nn ∧ t = .int .i64 (j : Int) ∧ (0 ≤ A ∧ A ≤ 60 + (j : Int)) ∧ RS w1 S wr kk nn M false A 0 ∧ MidM M nn j) (fun t _ => nn - (intOf t).toNat)
  case atStart => exact ⟨0, S, M, A0, by omega, rfl, ⟨by omega, by omega⟩, hB, hMid⟩
  case round =>
    clear hB hMid
    obtain ⟨j, S, M, A, hj, rfl, hA, hB, hG⟩ := hrel
    by_cases hlt : j < nn
    · have j1 : (j : Int) < (nn : Int) := by omega
      have j2 : (j : Int) + 1 ≤ 8 := by omega
      obtain ⟨L, V, hM, hL6, hVk, _⟩ := hG j hlt
      have cF := rs_flush hB j hlt (by omega) (by omega) (by omega) hM (fun z => by have := hVk z; omega)
      rw [nxt0] at cF
      clear hB
      go_wp2_with (fail)
      refine cF.mono ?_
      rintro e w5 ⟨S5, rfl, _, hB5⟩
      have hG5 := hG.flush V hL6
      generalize upd M j ⟨false, flush L V, noV⟩ = M5 at *
      clear cF hG hM hL6 hVk
      go_wp2_with (fail)
      go_roundw
      case rel => exact ⟨j + 1, S5, M5, A + 1, by omega, by go_num, ⟨by omega, by omega⟩, hB5, hG5⟩
      case measure => simp [intOf]; omega
    · have hjn : j = nn := by omega
      have j3 : ¬ ((j : Int) < (nn : Int)) := by omega
      obtain ⟨C, hC⟩ : ∃ C, C = fun i => (M i).L := ⟨_, rfl⟩
      have hC6 : ∀ i, i < nn → (C i).length = 6 := fun i hi => by
        obtain ⟨L, V, h1, h2, _⟩ := hG i hi
        rw [hC]
        show (M i).L.length = 6
        rw [h1]; exact h2
      have hB5 := hB.congr (M' := liveM C) (fun i hi => by
        obtain ⟨L, V, h1, _, _, h4⟩ := hG i hi
        rw [hC]
        show Mst.mk false (M i).L noV = M i
        rw [h1, h4 (by omega)])
      have hA7 : 0 ≤ A ∧ A ≤ 70 := by omega
      clear hB hC hG hlt hj hA
      go_wp2_with (fail)
      go_loopw [16, 15] (fun t vx wr => ∃ (j : Nat) (u : Value) (X : Nat → Value) (D : Nat → List ByteArray), u = vx ∧ j ≤ nn ∧ t = .int .i64 (j : Int) ∧ RS w1 S wr kk nn (liveM C) false A 0 ∧ Was wr w1.heap.size S j u X D ∧ ∀ i, i < j → D i = C i ∧ ∃ x, X i = .slice (some ⟨x, 0, none⟩) 6 6) (fun t _ _ => nn - (intOf t).toNat)
      case atStart => exact ⟨0, _, fun _ => .nilFunc, fun _ => [], rfl, by omega, rfl, hB5, Was.nil _ _ _ _ _, fun i hi => absurd hi (Nat.not_lt_zero _)⟩
      case round =>
        clear hB5 j3 hjn
        obtain ⟨j, u, X, D, rfl, hj, rfl, hB, hW, hX⟩ := hrel
        by_cases hlt : j < nn
        · have j1 : (j : Int) < (nn : Int) := by omega
          have j2 : (j : Int) + 1 ≤ 8 := by omega
          have cI := rs_image hB j hlt (L := C j) (V := noV) rfl
          go_wp2_with (fail)
          refine cI.mono ?_
          rintro e w5 ⟨x, rfl, b5, o5⟩
          have hB2 := hB.after b5
          rw [hC6 j hlt] at o5 ⊢
          obtain ⟨_, w6, ⟨pa, pn, pc, rfl⟩, hap, hW2, hb6, hk6⟩ := hW.push hB.b.size (by omega) b5 o5 hB.lt
          have hB3 := hB2.other hb6 hk6
          have hX2 : ∀ i, i < j + 1 → upd D j (C j) i = C i ∧ ∃ x', upd X j (.slice (some ⟨x, 0, none⟩) 6 6) i = .slice (some ⟨x', 0, none⟩) 6 6 := fun i hi => by
            by_cases e : i = j
            · subst e; rw [upd_same, upd_same]; exact ⟨rfl, x, rfl⟩
            · rw [upd_other _ _ _ _ e, upd_other _ _ _ _ e]; exact hX i (by omega)
          have hrel2 := Lib.hid (And.intro hB3 (And.intro hW2 hX2))
          clear hB hB2 hB3 hW hW2 hX hX2 b5 o5 hb6 hk6 cI
          go_wp2_with (at_builtin; refine wpList_append_run hap _ _ rfl rfl rfl rfl rfl ?_)
          go_roundw
          case rel => exact ⟨j + 1, _, _, _, rfl, by omega, by go_num, hrel2.out⟩
          case measure => simp [intOf]; omega
        · have hj3 : j = nn := by omega
          have j3 : ¬ ((j : Int) < (nn : Int)) := by omega
          rw [hj3] at hW hX
          obtain ⟨y, yc, rfl, _, _⟩ := hW.o.form (by rw [rowV_len]; omega)
          rw [rowV_len] at hW ⊢
          have hB' : RS w1 S wr kk nn (upd (liveM C) one ⟨false, C one, noV⟩) false A 0 := by
            have e := upd_self (liveM C) one
            rw [show liveM C one = ⟨false, C one, noV⟩ from rfl] at e
            rw [e]; exact hB
          clear hB hlt hj hj3
          go_wp2_with (fail)
          go_loopw [17] (fun t wr => ∃ (k : Nat) (S : Nat → Prop) (A : Int) (fd : Bool) (L : List ByteArray) (V : Int → List ByteArray), k ≤ 60 ∧ k ≤ la.length ∧ t = .int .i64 (k : Int) ∧ (0 ≤ A ∧ A ≤ 100 + (k : Int)) ∧ RS w1 S wr kk nn (upd (liveM C) one ⟨fd, L, V⟩) false A 0 ∧ L.length = 6 ∧ (∀ z, (V z).length ≤ k) ∧ Was wr w1.heap.size S nn (.slice (some ⟨y, 0, none⟩) nn yc) X D) (fun t _ => 60 - (intOf t).toNat)
          case atStart => exact ⟨0, S, _, false, _, _, by omega, by omega, rfl, ⟨by omega, by omega⟩, hB', hC6 one h1n, fun z => by simp [noV], hW⟩
          case round =>
            clear hB' hW j3
            obtain ⟨k, S, A, fd, L, V, hk60, hkl, rfl, hA, hB, hL6, hVk, hW⟩ := hrel
            by_cases hlt : k < la.length ∧ k < 60
            · obtain ⟨hl1, hl2⟩ := hlt
              have k1 : (k : Int) < (la.length : Int) := by omega
              have k2 : (k : Int) < 60 := by omega
              obtain ⟨pa, pcap, rfl, pcell⟩ := hQ1.items
              obtain ⟨cb, co, rfl, clt, cc⟩ := pcell k hl1
              obtain ⟨i0, i1, i2, i3⟩ := hQ2 _ (List.getElem_mem hl1)
              obtain ⟨x, hx⟩ : ∃ x, la[k] = x := ⟨_, rfl⟩
              rw [hx] at cc i0 i1 i2 i3
              obtain ⟨ca, cn, ccp, hcv⟩ : ∃ a n c, asS x.v = .slice a n c := by
                cases hxv : x.v <;> exact ⟨_, _, _, rfl⟩
              have cell : ∀ j, j < 5 → wr.cell? ⟨cb, co + k * 5 + j, none⟩ = (aE.f x)[j]? := fun j hj => by
                rw [Nat.add_assoc]
                exact (hB.b.cell (p := ⟨cb, co + (k * 5 + j), none⟩) clt).trans (cc j hj)
              have q0 := cell 0 (by omega)
              have q1 := cell 1 (by omega)
              have q2 := cell 2 (by omega)
              have q3 := cell 3 (by omega)
              have q4 := cell 4 (by omega)
              replace q0 : wr.cell? ⟨cb, co + k * 5, none⟩ = some (.int .i64 x.wh) := q0
              replace q1 : wr.cell? ⟨cb, co + k * 5 + 1, none⟩ = some (.int .i64 x.sl) := q1
              replace q2 : wr.cell? ⟨cb, co + k * 5 + 2, none⟩ = some (.int .i64 x.at_) := q2
              replace q3 : wr.cell? ⟨cb, co + k * 5 + 3, none⟩ = some (.int .i64 x.n) := q3
              replace q4 : wr.cell? ⟨cb, co + k * 5 + 4, none⟩ = some (.slice ca cn ccp) := by rw [← hcv]; exact q4
              have b2 : Below wr.heap.size wr (wr.alloc (.cells #[.int .i64 x.wh, .int .i64 x.sl, .int .i64 x.at_, .int .i64 x.n, .slice ca cn ccp] 59)) := (Below.refl _ _).alloc (Nat.le_refl _) _
              have hB2 := hB.after b2
              have hW2 := hW.after b2
              clear hB hW b2 pcell cc cell hcv hx
              go_upto_region 24 with (fail)
              have e0 : (wr.alloc (.cells #[.int .i64 x.wh, .int .i64 x.sl, .int .i64 x.at_, .int .i64 x.n, .slice ca cn ccp] 59)).cell? ⟨wr.heap.size, 0, none⟩ = some (.int .i64 x.wh) := by rw [World.cell?_alloc_mark]; rfl
              have e2 : (wr.alloc (.cells #[.int .i64 x.wh, .int .i64 x.sl, .int .i64 x.at_, .int .i64 x.n, .slice ca cn ccp] 59)).cell? ⟨wr.heap.size, 2, none⟩ = some (.int .i64 x.at_) := by rw [World.cell?_alloc_mark]; rfl
              have e3 : (wr.alloc (.cells #[.int .i64 x.wh, .int .i64 x.sl, .int .i64 x.at_, .int .i64 x.n, .slice ca cn ccp] 59)).cell? ⟨wr.heap.size, 3, none⟩ = some (.int .i64 x.n) := by rw [World.cell?_alloc_mark]; rfl
              have hxl : wr.heap.size < (wr.alloc (.cells #[.int .i64 x.wh, .int .i64 x.sl, .int .i64 x.at_, .int .i64 x.n, .slice ca cn ccp] 59)).heap.size := by simp
              clear q0 q1 q2 q3 q4 clt hQ1 hQ2
              generalize wr.alloc (.cells #[.int .i64 x.wh, .int .i64 x.sl, .int .i64 x.at_, .int .i64 x.n, .slice ca cn ccp] 59) = wa at *
              generalize wr.heap.size = xb at *
              have pk : ∀ (c : Int) (m : Nat), In64 c → 1 ≤ m → m ≤ 300 → ∀ W, Calls Try.prog 40 #[.int .i64 c, .int .i64 (m : Int)] W fun e w' => e = .returned (.int .i64 ((pickC c % m : Nat) : Int)) ∧ W = w' := fun c m hc h1 h2 W => pick9_any c m hc h1 (by omega) W
              obtain ⟨t, ht⟩ : ∃ t, pickC x.wh % 5 = t := ⟨_, rfl⟩
              have ht5 : t < 5 := by rw [← ht]; exact Nat.mod_lt _ (by omega)
              have cpt : ∀ W, Calls Try.prog 40 #[.int .i64 x.wh, .int .i64 5] W fun e w' => e = .returned (.int .i64 (t : Int)) ∧ W = w' := fun W => by
                have := pk x.wh 5 i0 (by omega) (by omega) W
                rw [ht] at this; exact this
              obtain ⟨a, ha⟩ : ∃ t, pickC x.at_ % 6 = t := ⟨_, rfl⟩
              have ha6 : a < 6 := by rw [← ha]; exact Nat.mod_lt _ (by omega)
              have cpa : ∀ W, Calls Try.prog 40 #[.int .i64 x.at_, .int .i64 6] W fun e w' => e = .returned (.int .i64 (a : Int)) ∧ W = w' := fun W => by
                have := pk x.at_ 6 i2 (by omega) (by omega) W
                rw [ha] at this; exact this
              obtain ⟨jb, hjb⟩ : ∃ t, pickC x.n % 128 = t := ⟨_, rfl⟩
              have hjb8 : jb < 128 := by rw [← hjb]; exact Nat.mod_lt _ (by omega)
              have cpj : ∀ W, Calls Try.prog 40 #[.int .i64 x.n, .int .i64 128] W fun e w' => e = .returned (.int .i64 (jb : Int)) ∧ W = w' := fun W => by
                have := pk x.n 128 i3 (by omega) (by omega) W
                rw [hjb] at this; exact this
              obtain ⟨bb, hbb⟩ : ∃ t, pickC x.n % 255 = t := ⟨_, rfl⟩
              have hbb8 : bb < 255 := by rw [← hbb]; exact Nat.mod_lt _ (by omega)
              have cpb : ∀ W, Calls Try.prog 40 #[.int .i64 x.n, .int .i64 255] W fun e w' => e = .returned (.int .i64 (bb : Int)) ∧ W = w' := fun W => by
                have := pk x.n 255 i3 (by omega) (by omega) W
                rw [hbb] at this; exact this
              obtain ⟨bq, hbq⟩ : ∃ q, bb + 1 = q := ⟨_, rfl⟩
              have hbq8 : bq < 256 := by omega
              have wbq : IntKind.i64.wrap (1 + (bb : Int)) = (bq : Int) := wrap_add _ _ (by omega) (by omega) (by omega)
              have cS := fun W => sector_q9 x.n i3 W
              have hs8 := sec_size x.n
              have hM1 := upd_same (liveM C) one (⟨fd, L, V⟩ : Mst)
              have hlenL : (upd (liveM C) one ⟨fd, L, V⟩ one).L.length = 6 := by rw [hM1]; exact hL6
              clear pk ht ha hjb hbb hbq i0 i1 i2 i3
              generalize sec x.n = sq at *
              go_upto_block 8 with (fail)
              refine (cpt _).mono ?_
              rintro e w' ⟨rfl, rfl⟩
              clear cpt
              go_upto_block 8 with (fail)
              go_cut [102] from 103 to 141 (fun _ w9 => ∃ (S9 : Nat → Prop) (A9 : Int) (fd9 : Bool) (L9 : List ByteArray) (V9 : Int → List ByteArray), (0 ≤ A9 ∧ A9 ≤ 100 + ((k + 1 : Nat) : Int)) ∧ RS w1 S9 w9 kk nn (upd (liveM C) one ⟨fd9, L9, V9⟩) false A9 0 ∧ L9.length = 6 ∧ (∀ z, (V9 z).length ≤ k + 1) ∧ Was w9 w1.heap.size S9 nn (.slice (some ⟨y, 0, none⟩) nn yc) X D)
              case first =>
               rcases (by omega : t = 0 ∨ t = 1 ∨ t = 2 ∨ t = 3 ∨ t = 4) with rfl | rfl | rfl | rfl | rfl
               · skip
                 go_wp2_with (fail)
                 refine wp_region_cls_tail (Below wa.heap.size wa) 8 (by kernel_rfl) (by kernel_rfl) (Below.refl _ _).drew ?_
                 intro Z f hne hD hE
                 have r2 : ∀ z, (f z).cell? ⟨xb, 2, none⟩ = some (.int .i64 x.at_) := fun z => (clsCell hD z _ _ hxl).trans e2
                 have r3 : ∀ z, (f z).cell? ⟨xb, 3, none⟩ = some (.int .i64 x.n) := fun z => (clsCell hD z _ _ hxl).trans e3
                 simp only [List.take_succ_cons, List.take_zero, List.drop_succ_cons, List.drop_zero]
                 iterate 8 (go_big_quiet_step (first | (go_at_call 40; first | with_reducible exact toQ _ (cpa _) | with_reducible exact toQ _ (cpj _) | with_reducible exact toQ _ (cpb _)) | (go_at_call 11; with_reducible exact toQB hD hE _ (cS _))))
                 refine wpQuiet_nil ?_
                 intro _ hw'
                 obtain ⟨zq, hw''⟩ := hw'
                 subst hw''
                 have hB3 := hB2.after (hD zq)
                 have hW3 := hW2.after (hD zq)
                 obtain ⟨wz, hwz⟩ : ∃ wz, f zq = wz := ⟨_, rfl⟩
                 rw [hwz] at hB3 hW3 ⊢
                 clear r2 r3 hE hD hwz zq hB2 hW2 e0 e2 e3 hxl
                 cases fd with
                 | false =>
                   have cW := rs_write hB3 one h1n (by omega) (by omega) (by omega) hM1 a (by omega) sq hs8 (by have := hVk a; omega)
                   rw [nxt0, upd_upd] at cW
                   clear hB3
                   go_wp2_with (fail)
                   refine cW.mono ?_
                   rintro e w9 ⟨S9, rfl, hs9, hB10⟩
                   have hW10 := hW3.step hs9
                   clear cW hW3 hs9
                   go_wp2_with (fail)
                   go_meet
                   exact ⟨S9, _, false, _, _, ⟨by omega, by omega⟩, hB10, hL6, updV9_le hVk (a : Int) sq, hW10⟩
                 | true =>
                   have cW := rs_writed hB3 one h1n (by omega) (by omega) (by omega) hM1 (a : Int) sq
                   rw [nxt0] at cW
                   clear hB3
                   go_wp2_with (fail)
                   refine cW.mono ?_
                   rintro e w9 ⟨S9, rfl, hs9, hB10⟩
                   have hW10 := hW3.step hs9
                   clear cW hW3 hs9
                   go_wp2_with (fail)
                   go_meet
                   exact ⟨S9, _, true, _, _, ⟨by omega, by omega⟩, hB10, hL6, fun z => by have := hVk z; omega, hW10⟩
               · skip
                 clear e0 e2 e3 hxl
                 cases fd with
                 | false =>
                   have cW := rs_flush hB2 one h1n (by omega) (by omega) (by omega) hM1 (fun z => by have := hVk z; omega)
                   rw [nxt0, upd_upd] at cW
                   go_wp2_with (fail)
                   refine cW.mono ?_
                   rintro e w9 ⟨S9, rfl, hs9, hB10⟩
                   have hW10 := hW2.step hs9
                   clear cW hW2 hs9 hB2
                   go_wp2_with (fail)
                   go_meet
                   exact ⟨S9, _, false, _, _, ⟨by omega, by omega⟩, hB10, by rw [flushN_len]; exact hL6, fun z => by simp [noV], hW10⟩
                 | true =>
                   have cW := rs_flushd hB2 one h1n (by omega) (by omega) (by omega) hM1
                   rw [nxt0] at cW
                   go_wp2_with (fail)
                   refine cW.mono ?_
                   rintro e w9 ⟨S9, rfl, hs9, hB10⟩
                   have hW10 := hW2.step hs9
                   clear cW hW2 hs9 hB2
                   go_wp2_with (fail)
                   go_meet
                   exact ⟨S9, _, true, _, _, ⟨by omega, by omega⟩, hB10, hL6, fun z => by have := hVk z; omega, hW10⟩
               · skip
                 clear e0 e2 e3 hxl
                 have cW := rs_fail hB2 one h1n
                 rw [hlenL, upd_upd] at cW
                 go_wp2_with (fail)
                 refine cW.mono ?_
                 rintro e w9 ⟨S9, rfl, hs9, hB10⟩
                 have hW10 := hW2.step hs9
                 clear cW hW2 hs9 hB2
                 go_wp2_with (fail)
                 go_meet
                 exact ⟨S9, _, true, _, _, ⟨by omega, by omega⟩, hB10, by simp, fun z => by simp [noV], hW10⟩
               · skip
                 clear e0 e2 e3 hxl
                 have cW := rs_blank hB2 one h1n
                 rw [hlenL, upd_upd] at cW
                 go_wp2_with (fail)
                 refine cW.mono ?_
                 rintro e w9 ⟨S9, rfl, hs9, hB10⟩
                 have hW10 := hW2.step hs9
                 clear cW hW2 hs9 hB2
                 go_wp2_with (fail)
                 go_meet
                 exact ⟨S9, _, false, _, _, ⟨by omega, by omega⟩, hB10, by simp, fun z => by simp [noV], hW10⟩
               · skip
                 go_wp2_with (fail)
                 refine wp_region_cls_tail (Below wa.heap.size wa) 12 (by kernel_rfl) (by kernel_rfl) (Below.refl _ _).drew ?_
                 intro Z f hne hD hE
                 have r2 : ∀ z, (f z).cell? ⟨xb, 2, none⟩ = some (.int .i64 x.at_) := fun z => (clsCell hD z _ _ hxl).trans e2
                 have r3 : ∀ z, (f z).cell? ⟨xb, 3, none⟩ = some (.int .i64 x.n) := fun z => (clsCell hD z _ _ hxl).trans e3
                 simp only [List.take_succ_cons, List.take_zero, List.drop_succ_cons, List.drop_zero]
                 iterate 12 (go_big_quiet_step (first | (go_at_call 40; first | with_reducible exact toQ _ (cpa _) | with_reducible exact toQ _ (cpj _) | with_reducible exact toQ _ (cpb _)) | (go_at_call 11; with_reducible exact toQB hD hE _ (cS _))))
                 refine wpQuiet_nil ?_
                 intro _ hw'
                 obtain ⟨zq, hw''⟩ := hw'
                 subst hw''
                 have hB3 := hB2.after (hD zq)
                 have hW3 := hW2.after (hD zq)
                 obtain ⟨wz, hwz⟩ : ∃ wz, f zq = wz := ⟨_, rfl⟩
                 rw [hwz] at hB3 hW3 ⊢
                 clear r2 r3 hE hD hwz zq hB2 hW2 e0 e2 e3 hxl
                 cases hrB : rotB (upd (liveM C) one ⟨fd, L, V⟩ one).fd (upd (liveM C) one ⟨fd, L, V⟩ one).L (upd (liveM C) one ⟨fd, L, V⟩ one).V (a : Int) (jb : Int) (bq : Int) with
                 | false =>
                   have cW := rs_rotn hB3 one h1n (a : Int) (jb : Int) (bq : Int) (in64_nat a (by omega)) hrB
                   clear hrB
                   go_wp2_with (fail)
                   refine cW.mono ?_
                   rintro e w9 ⟨rfl, rfl⟩
                   clear cW
                   obtain ⟨S9, hS9⟩ : ∃ S9, S = S9 := ⟨_, rfl⟩
                   rw [hS9] at hB3 hW3
                   obtain ⟨w9, hw9⟩ : ∃ w9, wz = w9 := ⟨_, rfl⟩
                   rw [hw9] at hB3 hW3 ⊢
                   go_wp2_with (fail)
                   go_meet
                   exact ⟨S9, _, fd, _, _, ⟨by omega, by omega⟩, hB3, hL6, fun z => by have := hVk z; omega, hW3⟩
                 | true =>
                   have cW := rs_rot hB3 one h1n a jb bq hrB (by omega) hjb8 hbq8
                   have hl10 : ((upd (liveM C) one ⟨fd, L, V⟩ one).L.set a (rotS ((upd (liveM C) one ⟨fd, L, V⟩ one).L[a]'(by omega)) jb bq)).length = 6 := by rw [List.length_set]; exact hlenL
                   have hv10 : ∀ z, ((upd (liveM C) one ⟨fd, L, V⟩ one).V z).length ≤ k + 1 := fun z => by
                     rw [hM1]
                     have := hVk z
                     show (V z).length ≤ k + 1
                     omega
                   rw [upd_upd] at cW
                   clear hB3 hrB
                   go_wp2_with (fail)
                   refine cW.mono ?_
                   rintro e w9 ⟨S9, rfl, hs9, hB10⟩
                   have hW10 := hW3.step hs9
                   clear cW hW3 hs9
                   go_wp2_with (fail)
                   go_meet
                   exact ⟨S9, _, false, _, _, ⟨by omega, by omega⟩, hB10, hl10, hv10, hW10⟩
              case rest =>
              obtain ⟨S9, A9, fd9, L9, V9, hA9, hB9, hL9, hV9, hW9⟩ := hcut
              clear hB2 hW2 e0 e2 e3 hxl
              clear hM1 hlenL cpa cpj cpb cS hs8 wbq hjb8 hbb8 hbq8 ha6 ht5 hL6 hVk hA
              go_wp2_with (fail)
              go_loopw [19] (fun t wq => ∃ j : Nat, j ≤ nn ∧ t = .int .i64 (j : Int) ∧ RS w1 S9 wq kk nn (upd (liveM C) one ⟨fd9, L9, V9⟩) false A9 0 ∧ Was wq w1.heap.size S9 nn (.slice (some ⟨y, 0, none⟩) nn yc) X D) (fun t _ => nn - (intOf t).toNat)
              case atStart => exact ⟨0, by omega, rfl, hB9, hW9⟩
              case round =>
                clear hB9 hW9
                obtain ⟨j, hj, rfl, hB, hW⟩ := hrel
                by_cases hlt : j < nn
                · have j1 : (j : Int) < (nn : Int) := by omega
                  have j2 : (j : Int) + 1 ≤ 8 := by omega
                  have hBd := hB.after (Below.refl wr.heap.size wr).drew
                  have hWd := hW.after (Below.refl wr.heap.size wr).drew
                  have hRel : Hid (∀ V, Below wr.drew.heap.size wr.drew V → RS w1 S9 V kk nn (upd (liveM C) one ⟨fd9, L9, V9⟩) false A9 0 ∧ Was V w1.heap.size S9 nn (.slice (some ⟨y, 0, none⟩) nn yc) X D) := Lib.hid fun V hb => ⟨hBd.after hb, hWd.after hb⟩
                  by_cases hjo : j = one
                  · have t1 : ((j : Int) != (one : Int)) = false := by rw [hjo]; exact bne_self_eq_false _
                    have t2 : ((j : Int) == (one : Int)) = true := by rw [hjo]; exact beq_self_eq_true _
                    clear hjo hB hW hBd hWd
                    go_wp2_with (fail)
                    refine wp_region_cls (Below wr.drew.heap.size wr.drew) (by kernel_rfl) (by kernel_rfl) (Below.refl _ _) ?_
                    intro Z f hne hD hE
                    iterate 26 (go_big_quiet_step (fail))
                    refine wpQuiet_nil ?_
                    intro _ hw'
                    obtain ⟨zq, hw''⟩ := hw'
                    subst hw''
                    have hrel2 := Lib.hid (hRel.out _ (hD zq))
                    generalize f zq = wz at *
                    clear hE hD hRel
                    go_wp2_with (fail)
                    go_roundw
                    case rel => exact ⟨j + 1, by omega, by go_num, hrel2.out⟩
                    case measure => simp [intOf]; omega
                  · have t1 : ((j : Int) != (one : Int)) = true := by rw [bne_iff_ne]; omega
                    have t2 : ((j : Int) == (one : Int)) = false := by rw [beq_eq_false_iff_ne]; omega
                    have hMj : upd (liveM C) one ⟨fd9, L9, V9⟩ j = ⟨false, C j, noV⟩ := upd_other _ _ _ _ hjo
                    have cI := rs_image hBd j hlt hMj
                    have hLj := hC6 j hlt
                    obtain ⟨hDj, xj, hXj⟩ := hX j hlt
                    have cx := hWd.cell hlt
                    have ou := hWd.r j hlt
                    rw [hXj] at cx ou
                    rw [hDj] at ou
                    have hxl := (hWd.o.o.lt y rfl).2
                    have cI5 : Calls Try.prog 61 #[.pointer (some ⟨kk, 0, none⟩), .int .i64 (j : Int)] wr.drew fun e w' => ∃ z, e = .returned (.slice (some ⟨z, 0, none⟩) 6 6) ∧ Below wr.drew.heap.size wr.drew w' ∧ Own w' wr.drew.heap.size 9 (.slice (some ⟨z, 0, none⟩) 6 6) ((C j).map .string) := cI.mono fun e w' ⟨z, h1, h2, h3⟩ => by
                      rw [hLj] at h1 h3
                      exact ⟨z, h1, h2, h3⟩
                    have hK : Hid (∀ V, Below wr.drew.heap.size wr.drew V → V.cell? ⟨y, j, none⟩ = some (.slice (some ⟨xj, 0, none⟩) 6 6)) := Lib.hid fun V hb => (hb.cell (p := ⟨y, j, none⟩) hxl).trans cx
                    have hSame : ∀ z V, Below wr.drew.heap.size wr.drew V → Own V wr.drew.heap.size 9 (.slice (some ⟨z, 0, none⟩) 6 6) ((C j).map .string) → Calls Try.prog 34 #[.slice (some ⟨z, 0, none⟩) 6 6, .slice (some ⟨xj, 0, none⟩) 6 6] V (SaysB V true) := fun z V hb ho => by
                      have := same_any _ _ _ _ V ho.reads (ou.reads.below hb) (by omega) (by omega)
                      rw [decide_eq_true rfl] at this
                      exact this
                    have cAl : ∀ V, Below wr.drew.heap.size wr.drew V → Calls Try.prog 57 #[.pointer (some ⟨kk, 0, none⟩), .int .i64 (j : Int)] V fun e w' => e = .returned (.bool true) ∧ V = w' := fun V hb => by
                      have := rs_alive (hRel.out V hb).1 j hlt
                      rw [hMj] at this; exact this
                    have cPe : ∀ V, Below wr.drew.heap.size wr.drew V → Calls Try.prog 59 #[.pointer (some ⟨kk, 0, none⟩), .int .i64 (j : Int)] V fun e w' => e = .returned (.int .i64 0) ∧ Below V.heap.size V w' := fun V hb => by
                      have := rs_pend (hRel.out V hb).1 j hlt
                      rw [hMj] at this
                      have e0 : (pend (Mst.mk false (C j) noV).L.length (Mst.mk false (C j) noV).V).length = 0 := by
                        show (pend (C j).length noV).length = 0
                        rw [pendN]; rfl
                      rw [e0] at this; exact this
                    clear hB hW hBd hWd ou cI hLj hxl hDj hXj hMj hjo
                    go_wp2_with (fail)
                    go_region_held3 (fun V => V.cell? ⟨y, j, none⟩ = some (.slice (some ⟨xj, 0, none⟩) 6 6)) (first | exact cx | exact hK.out _ (by assumption)) (first
                      | (go_at_call 61; refine cI5.mono ?_; rintro e w7 ⟨z, rfl, b7, o7⟩; have hs7 := hSame z w7 b7 o7)
                      | (go_at_call 34; refine hs7.mono ?_; rintro e w8 ⟨rfl, b8, hw8⟩; clear hw8; have b9 := below_c b7 b8)
                      | (go_at_call 57; refine (cAl _ b9).mono ?_; rintro e w' ⟨rfl, rfl⟩)
                      | (go_at_call 59; refine (cPe _ b9).mono ?_; rintro e w10 ⟨rfl, b10⟩; have b11 := below_c b9 b10))
                    all_goals
                      have hrel2 := Lib.hid (hRel.out _ b11)
                      go_wp2_with (fail)
                      go_roundw
                      case rel => exact ⟨j + 1, by omega, by go_num, hrel2.out⟩
                      case measure => simp [intOf]; omega
                · have hj3 : j = nn := by omega
                  have j3 : ¬ ((j : Int) < (nn : Int)) := by omega
                  clear hlt hj hj3
                  have hrel2 := Lib.hid (And.intro hB (And.intro hL9 (And.intro hV9 hW)))
                  clear hB hW hL9 hV9
                  go_wp2_with (fail)
                  go_roundw
                  case rel => exact ⟨k + 1, S9, A9, fd9, L9, V9, by omega, by omega, by go_num, hA9, hrel2.out⟩
                  case measure => simp [intOf]; omega
            · have hcd : ((k : Int) < (la.length : Int) ∧ ¬ ((k : Int) < 60)) ∨ ¬ ((k : Int) < (la.length : Int)) := by omega
              have hfin := Lib.hid (hb1H.out.trans (hB.b.mono hb1H.out.size))
              clear hB hW hlt
              rcases hcd with ⟨kx, k50⟩ | kx
              · go_wp2_with (fail)
                go_ret
                exact ⟨rfl, hfin.out⟩
              · go_wp2_with (fail)
                go_ret
                exact ⟨rfl, hfin.out⟩
end Go.Proofs.Ytofhmdbilhdblaa
