/- count's laws: a table answers every script as the document does. -/
import Derived.Test.YtbfdjlibhinkiaaCntRef2
import Derived.Deep.RegionHeld3
namespace Go.Proofs.Ytbfdjlibhinkiaa
open Go.RowKit
set_option linter.unusedVariables false
set_option linter.unusedSimpArgs false

theorem drewN_add (w : World) (n k : Nat) : (w.drewN n).drewN k = w.drewN (n + k) := by simp [World.drewN, Nat.add_assoc]
theorem cntd_false {n : Nat} {C : Nat → Nat} {b : Int} (h : cntdB n C b = false) (hb : 3 ≤ b) : cntV n C b = 0 := by
  unfold cntdB at h; rw [decide_eq_false_iff_not] at h
  rcases Nat.eq_zero_or_pos (cntV n C b) with h1 | h1
  · exact h1
  · exact absurd ⟨hb, h1⟩ h
/-- Both tables, alike. -/
structure Both (w : World) (g p h n : Nat) (C : Nat → Nat) : Prop where
  t : TabAt w g n C
  r : RTab w p h n C
  gp : g ≠ p
  gh : g ≠ h
theorem Both.heap {w w' : World} {g p h n : Nat} {C : Nat → Nat} (b : Both w g p h n C) (e : ∀ k, k < w.heap.size → w'.heap[k]? = w.heap[k]?) (hs : w.heap.size ≤ w'.heap.size) : Both w' g p h n C :=
  ⟨b.t.heap (e g b.t.lt), b.r.heap (e p b.r.pl) (e h b.r.hl) hs, b.gp, b.gh⟩
theorem Both.below {w w' : World} {g p h n : Nat} {C : Nat → Nat} (b : Both w g p h n C) (hb : Below w.heap.size w w') : Both w' g p h n C := b.heap (fun k hk => hb.block k hk) hb.size
theorem Both.tab {w w' : World} {g p h n : Nat} {C D : Nat → Nat} (b : Both w g p h n C) (t : TabTo w g n D w') : TabAt w' g n D ∧ RTab w' p h n C := ⟨t.t, b.r.heap (t.oth p b.r.pl (Ne.symm b.gp)) (t.oth h b.r.hl (Ne.symm b.gh)) t.sz⟩
theorem Both.other {w : World} {g p h n k o : Nat} {C : Nat → Nat} (b : Both w g p h n C) (v : Value) (h1 : g ≠ k) (h2 : p ≠ k) (h3 : h ≠ k) : Both (w.setCell ⟨k, o, none⟩ v) g p h n C :=
  ⟨b.t.other v h1, b.r.heap (Below.heap_setCell _ _ _ _ h2) (Below.heap_setCell _ _ _ _ h3) (by simp), b.gp, b.gh⟩
theorem cell_of_blk {w w' : World} {k : Nat} (e : w'.heap[k]? = w.heap[k]?) (o : Nat) : w'.cell? ⟨k, o, none⟩ = w.cell? ⟨k, o, none⟩ := by simp only [World.cell?, e]
set_option maxRecDepth 100000 in
set_option maxHeartbeats 16000000 in
theorem plays_good (n : Nat) (aa : Option Addr) (ca : Nat) (l : List ActV) (w : World) (hn8 : 8 ≤ n) (hn200 : n ≤ 200) (hA : Acts w aa l) (ll : l.length ≤ 140737488355328) :
    Calls Try.prog 3 #[.int .i64 (n : Int), .slice aa l.length ca] w fun e w' => e = .returned (.bool true) ∧ Below w.heap.size w w' := by
  have cN := fun W => new_good n W hn8 hn200
  have cM := fun W => rnew_good n W hn8 hn200
  go_enter Try.func3, Try.ntmps3
  go_wp2_with (fail)
  refine (awake_any _).mono ?_
  rintro e w1 ⟨rfl, b1⟩
  have hs1 := b1.size
  go_wp2_with (fail)
  refine (cN _).mono ?_
  rintro e w2 ⟨rfl, b2, t2⟩
  have B2 := below_e b1 b2
  obtain ⟨g0, hg⟩ : ∃ g, w1.heap.size = g := ⟨_, rfl⟩
  rw [hg] at t2
  try rw [hg]
  have hgw0 : w.heap.size ≤ g0 := by omega
  clear hg b1 b2 hs1 cN
  go_wp2_with (fail)
  refine (cM _).mono ?_
  rintro e w3 ⟨p, h, rfl, hh3, b3, r3⟩
  have E3 := below_e B2 b3
  have T3 := t2.below b3 t2.lt
  have hhw : w.heap.size ≤ h := Nat.le_trans B2.size hh3
  have BO3 : Both w3 g0 p h n (cO fun _ => 0) := by
    rw [cO_zero]
    exact ⟨T3, r3, by have := t2.lt; have := r3.ne; omega, by have := t2.lt; omega⟩
  clear t2 B2 hh3 b3 r3 T3 cM
  go_wp2_with (fail)
  go_loopw [6, 10] (fun av t wr => ∃ (j g : Nat) (O : Nat → Nat), j ≤ l.length ∧ av = .pointer (some ⟨g, 0, none⟩) ∧ t = .int .i64 (j : Int) ∧ OkO n O ∧ w.heap.size ≤ g ∧ Below w.heap.size w wr ∧ Both wr g p h n (cO O)) (fun _ t _ => l.length - (intOf t).toNat)
  case atStart => exact ⟨0, g0, fun _ => 0, by omega, rfl, rfl, okO_zero _, hgw0, E3, BO3⟩
  case round =>
    obtain ⟨j, g, O, hj, rfl, rfl, hO, hgw, hB, hT⟩ := hrel
    rename World => wr
    have hS := small_cO hn8 hn200 hO
    have hBs := hB.size
    by_cases hc : j < l.length ∧ j < 600
    · obtain ⟨hjl, hj4⟩ := hc
      have y1 : (j : Int) < (l.length : Int) := by omega
      have y2 : (j : Int) < 600 := by omega
      obtain ⟨nb, no, rfl, hnb, n0, n1, n2⟩ := hA.c j hjl
      have hrj := hA.r j hjl
      have d0 : wr.cell? ⟨nb, no + j * 3, none⟩ = some (.int .i64 l[j].what) := by rw [hB.cell (p := ⟨nb, no + j * 3, none⟩) hnb]; exact n0
      have d1 : wr.cell? ⟨nb, no + j * 3 + 1, none⟩ = some (.int .i64 l[j].b) := by rw [hB.cell (p := ⟨nb, no + j * 3 + 1, none⟩) hnb]; exact n1
      have d2 : wr.cell? ⟨nb, no + j * 3 + 2, none⟩ = some (.bool l[j].near) := by rw [hB.cell (p := ⟨nb, no + j * 3 + 2, none⟩) hnb]; exact n2
      clear n0 n1 n2
      generalize l[j].what = wh at *
      generalize l[j].b = bb at *
      generalize l[j].near = nr at *
      have hbx : Below wr.heap.size wr (wr.alloc (.cells #[.int .i64 wh, .int .i64 bb, .bool nr] 32)) := (Below.refl _ _).alloc (Nat.le_refl _) _
      have B5 := hT.below hbx
      have E5 := hB.trans (hbx.mono hBs)
      have k0 : (wr.alloc (.cells #[.int .i64 wh, .int .i64 bb, .bool nr] 32)).cell? ⟨wr.heap.size, 0, none⟩ = some (.int .i64 wh) := by simp
      have k1 : (wr.alloc (.cells #[.int .i64 wh, .int .i64 bb, .bool nr] 32)).cell? ⟨wr.heap.size, 1, none⟩ = some (.int .i64 bb) := by simp
      have k2 : (wr.alloc (.cells #[.int .i64 wh, .int .i64 bb, .bool nr] 32)).cell? ⟨wr.heap.size, 2, none⟩ = some (.bool nr) := by simp
      have kf : (wr.alloc (.cells #[.int .i64 wh, .int .i64 bb, .bool nr] 32)).frozen? ⟨wr.heap.size, 1, none⟩ = false := frozen_of_row _ _ _ _ _ (heap_alloc_new _ _)
      have hxl : wr.heap.size < (wr.alloc (.cells #[.int .i64 wh, .int .i64 bb, .bool nr] 32)).heap.size := by simp
      have l1 := hT.t.lt
      have l2 := hT.r.pl
      have l3 := hT.r.hl
      obtain ⟨xb, hxb⟩ : ∃ xb, wr.heap.size = xb := ⟨_, rfl⟩
      have hxg : xb ≠ g := by omega
      have hxp : xb ≠ p := by omega
      have hxh : xb ≠ h := by omega
      have hxw : w.heap.size ≤ xb := by omega
      rw [hxb] at k0 k1 k2 kf hxl
      have hpk := pk_rng wh 7 (by decide)
      obtain ⟨wt, hwt0⟩ := Int.eq_ofNat_of_zero_le hpk.1
      have c7 := fun W => pick_any wh 7 W hrj.1.1 hrj.1.2 (by decide) (by decide)
      rw [hwt0] at c7
      have hwt : wt = 0 ∨ wt = 1 ∨ wt = 2 ∨ wt = 3 ∨ wt = 4 ∨ wt = 5 ∨ wt = 6 := by omega
      have hpn := pk_rng bb (n : Int) (by omega)
      have cn := fun W => pick_any bb (n : Int) W hrj.2.1 hrj.2.2 (by omega) (by omega)
      generalize pk bb (n : Int) = pbn at *
      clear hpk hwt0 hpn
      cases nr with
      | true =>
        go_wp2_with (fail)
        try rw [hxb]
        generalize hw5 : wr.alloc (.cells #[.int .i64 wh, .int .i64 bb, .bool true] 32) = w5 at *
        clear hw5 hT hB hbx d0 d1 d2 hxb hBs l1 l2 l3
        refine (cn _).mono ?_
        rintro e w' ⟨rfl, rfl⟩
        have B0 := B5.other (k := xb) (o := 1) (.int .i64 pbn) (Ne.symm hxg) (Ne.symm hxp) (Ne.symm hxh)
        have E0 := E5.setCell (p := ⟨xb, 1, none⟩) hxw (.int .i64 pbn)
        have k1' : (w5.setCell ⟨xb, 1, none⟩ (.int .i64 pbn)).cell? ⟨xb, 1, none⟩ = some (.int .i64 pbn) := World.cell?_setCell_same' w5 _ _ (by rw [k1]; rfl)
        have k0' : (w5.setCell ⟨xb, 1, none⟩ (.int .i64 pbn)).cell? ⟨xb, 0, none⟩ = some (.int .i64 wh) := by rw [World.cell?_setCell_other w5 _ _ _ (by simp)]; exact k0
        have hxl' : xb < (w5.setCell ⟨xb, 1, none⟩ (.int .i64 pbn)).heap.size := by simpa using hxl
        go_wp2_with (fail)
        generalize w5.setCell ⟨xb, 1, none⟩ (.int .i64 pbn) = W0 at *
        clear k0 k1 k2 kf B5 E5 hxl cn
        have k1 := k1'
        have hxl := hxl'
        clear k1' hxl'
        refine (c7 _).mono ?_
        rintro e w' ⟨rfl, rfl⟩
        clear k0' c7
        generalize pbn = bx at *
        rcases hwt with rfl | rfl | rfl | rfl | rfl | rfl | rfl
        · as_aux_lemma =>
            rcases least_free n (cO O) with ⟨k, k1', k2, k3⟩ | hno
            · have hk3 : 3 ≤ k := by
                rcases Nat.lt_or_ge k 3 with h | h
                · unfold cO at k2; rw [if_pos h] at k2; cases k2
                · exact h
              have cA := fun W t => alloc_some g n _ W t hS k k1' k2 k3
              have cR := fun W t => ralloc_some p h n _ W t hS k k1' k2 k3
              have hO1 := okO_upd hO hk3 k1' (v := 1) (by decide)
              rw [cO_upd hk3] at cA cR
              clear k2 k3
              go_wp2_with (fail)
              refine (cA _ B0.t).mono ?_
              rintro e w6 ⟨rfl, t6⟩
              obtain ⟨T6, R6⟩ := B0.tab t6
              go_wp2_with (fail)
              refine (cR _ R6).mono ?_
              rintro e w7 ⟨rfl, t7⟩
              have E7 : Below w.heap.size w w7 := (E0.trans (t6.keep _ hgw E0.size)).trans (t7.keep _ hhw (Nat.le_trans E0.size t6.sz))
              have B7 : Both w7 g p h n (cO (upd O k 1)) := ⟨T6.heap (t7.oth g T6.lt B0.gh), t7.t, B0.gp, B0.gh⟩
              have k7 : w7.cell? ⟨xb, 1, none⟩ = some (.int .i64 bx) := by
                rw [cell_of_blk (t7.oth xb (Nat.lt_of_lt_of_le hxl t6.sz) hxh) 1, cell_of_blk (t6.oth xb hxl hxg) 1]; exact k1
              clear t6 T6 R6 t7 cA cR
              have hS9 := small_cO hn8 hn200 hO1
              have hBO := B7
              have q1 := fun kz => count_any g n (cO (upd O k 1)) bx _ (hBO.t.drewN kz) hS9
              have q2 := fun kz => rcount_any p h n (cO (upd O k 1)) bx _ (hBO.r.drewN kz) hS9
              have q3 := fun kz => used_any g n (cO (upd O k 1)) _ (hBO.t.drewN kz) hS9
              have q4 := fun kz => rused_any p h n (cO (upd O k 1)) _ (hBO.r.drewN kz) hS9
              have q5 := fun kz => free_any g n (cO (upd O k 1)) _ (hBO.t.drewN kz) hS9
              have q6 := fun kz => rfree_any p h n (cO (upd O k 1)) _ (hBO.r.drewN kz) hS9
              have q7 := fun kz => blocks_any g n (cO (upd O k 1)) _ (hBO.t.drewN kz)
              have q8 := fun kz => rblocks_any p h n (cO (upd O k 1)) _ (hBO.r.drewN kz)
              have hk1 := k7
              have hBE := E7
              generalize usedTo (cO (upd O k 1)) 240 = uu at *
              generalize cntV n (cO (upd O k 1)) bx = cv at *
              go_wp2_with (fail)
              go_quiet ((first | (go_at_call 19; exact Calls.quiet_of_same ((q1 _).mono fun _ _ h => ⟨h.1, h.2.symm⟩)) | (go_at_call 20; exact Calls.quiet_of_same ((q2 _).mono fun _ _ h => ⟨h.1, h.2.symm⟩)) | (go_at_call 21; exact Calls.quiet_of_same ((q3 _).mono fun _ _ h => ⟨h.1, h.2.symm⟩)) | (go_at_call 22; exact Calls.quiet_of_same ((q4 _).mono fun _ _ h => ⟨h.1, h.2.symm⟩)) | (go_at_call 23; exact ((q5 _).mono fun _ _ h => ⟨h.1, h.2.imp' (fun k => _ + k) fun k e => e.trans (drewN_add _ _ _)⟩)) | (go_at_call 24; exact ((q6 _).mono fun _ _ h => ⟨h.1, h.2.imp' (fun k => _ + k) fun k e => e.trans (drewN_add _ _ _)⟩)) | (go_at_call 25; exact Calls.quiet_of_same ((q7 _).mono fun _ _ h => ⟨h.1, h.2.symm⟩)) | (go_at_call 26; exact Calls.quiet_of_same ((q8 _).mono fun _ _ h => ⟨h.1, h.2.symm⟩))))
              go_wp2_with (fail)
              go_roundw
              case rel => exact ⟨j + 1, g, upd O k 1, by omega, rfl, by go_num, hO1, hgw, hBE.trans ⟨rfl, rfl, rfl, Nat.le_refl _, fun _ _ => rfl⟩, hBO.heap (fun _ _ => rfl) (Nat.le_refl _)⟩
              case measure => simp [intOf]; omega
            · have cA := alloc_none g n _ _ B0.t hS hno
              have cR := ralloc_none p h n _ _ B0.r hS hno
              clear hno
              go_wp2_with (fail)
              refine cA.mono ?_
              rintro e w' ⟨rfl, rfl⟩
              go_wp2_with (fail)
              refine cR.mono ?_
              rintro e w' ⟨rfl, rfl⟩
              clear cA cR
              have hS9 := small_cO hn8 hn200 hO
              have hBO := B0
              have q1 := fun kz => count_any g n (cO (O)) bx _ (hBO.t.drewN kz) hS9
              have q2 := fun kz => rcount_any p h n (cO (O)) bx _ (hBO.r.drewN kz) hS9
              have q3 := fun kz => used_any g n (cO (O)) _ (hBO.t.drewN kz) hS9
              have q4 := fun kz => rused_any p h n (cO (O)) _ (hBO.r.drewN kz) hS9
              have q5 := fun kz => free_any g n (cO (O)) _ (hBO.t.drewN kz) hS9
              have q6 := fun kz => rfree_any p h n (cO (O)) _ (hBO.r.drewN kz) hS9
              have q7 := fun kz => blocks_any g n (cO (O)) _ (hBO.t.drewN kz)
              have q8 := fun kz => rblocks_any p h n (cO (O)) _ (hBO.r.drewN kz)
              have hk1 := k1
              have hBE := E0
              generalize usedTo (cO (O)) 240 = uu at *
              generalize cntV n (cO (O)) bx = cv at *
              go_wp2_with (fail)
              go_quiet ((first | (go_at_call 19; exact Calls.quiet_of_same ((q1 _).mono fun _ _ h => ⟨h.1, h.2.symm⟩)) | (go_at_call 20; exact Calls.quiet_of_same ((q2 _).mono fun _ _ h => ⟨h.1, h.2.symm⟩)) | (go_at_call 21; exact Calls.quiet_of_same ((q3 _).mono fun _ _ h => ⟨h.1, h.2.symm⟩)) | (go_at_call 22; exact Calls.quiet_of_same ((q4 _).mono fun _ _ h => ⟨h.1, h.2.symm⟩)) | (go_at_call 23; exact ((q5 _).mono fun _ _ h => ⟨h.1, h.2.imp' (fun k => _ + k) fun k e => e.trans (drewN_add _ _ _)⟩)) | (go_at_call 24; exact ((q6 _).mono fun _ _ h => ⟨h.1, h.2.imp' (fun k => _ + k) fun k e => e.trans (drewN_add _ _ _)⟩)) | (go_at_call 25; exact Calls.quiet_of_same ((q7 _).mono fun _ _ h => ⟨h.1, h.2.symm⟩)) | (go_at_call 26; exact Calls.quiet_of_same ((q8 _).mono fun _ _ h => ⟨h.1, h.2.symm⟩))))
              go_wp2_with (fail)
              go_roundw
              case rel => exact ⟨j + 1, g, O, by omega, rfl, by go_num, hO, hgw, hBE.trans ⟨rfl, rfl, rfl, Nat.le_refl _, fun _ _ => rfl⟩, hBO.heap (fun _ _ => rfl) (Nat.le_refl _)⟩
              case measure => simp [intOf]; omega
        · as_aux_lemma =>
            rcases least_free n (cO O) with ⟨k, k1', k2, k3⟩ | hno
            · have hk3 : 3 ≤ k := by
                rcases Nat.lt_or_ge k 3 with h | h
                · unfold cO at k2; rw [if_pos h] at k2; cases k2
                · exact h
              have cA := fun W t => alloc_some g n _ W t hS k k1' k2 k3
              have cR := fun W t => ralloc_some p h n _ W t hS k k1' k2 k3
              have hO1 := okO_upd hO hk3 k1' (v := 1) (by decide)
              rw [cO_upd hk3] at cA cR
              clear k2 k3
              go_wp2_with (fail)
              refine (cA _ B0.t).mono ?_
              rintro e w6 ⟨rfl, t6⟩
              obtain ⟨T6, R6⟩ := B0.tab t6
              go_wp2_with (fail)
              refine (cR _ R6).mono ?_
              rintro e w7 ⟨rfl, t7⟩
              have E7 : Below w.heap.size w w7 := (E0.trans (t6.keep _ hgw E0.size)).trans (t7.keep _ hhw (Nat.le_trans E0.size t6.sz))
              have B7 : Both w7 g p h n (cO (upd O k 1)) := ⟨T6.heap (t7.oth g T6.lt B0.gh), t7.t, B0.gp, B0.gh⟩
              have k7 : w7.cell? ⟨xb, 1, none⟩ = some (.int .i64 bx) := by
                rw [cell_of_blk (t7.oth xb (Nat.lt_of_lt_of_le hxl t6.sz) hxh) 1, cell_of_blk (t6.oth xb hxl hxg) 1]; exact k1
              clear t6 T6 R6 t7 cA cR
              have hS9 := small_cO hn8 hn200 hO1
              have hBO := B7
              have q1 := fun kz => count_any g n (cO (upd O k 1)) bx _ (hBO.t.drewN kz) hS9
              have q2 := fun kz => rcount_any p h n (cO (upd O k 1)) bx _ (hBO.r.drewN kz) hS9
              have q3 := fun kz => used_any g n (cO (upd O k 1)) _ (hBO.t.drewN kz) hS9
              have q4 := fun kz => rused_any p h n (cO (upd O k 1)) _ (hBO.r.drewN kz) hS9
              have q5 := fun kz => free_any g n (cO (upd O k 1)) _ (hBO.t.drewN kz) hS9
              have q6 := fun kz => rfree_any p h n (cO (upd O k 1)) _ (hBO.r.drewN kz) hS9
              have q7 := fun kz => blocks_any g n (cO (upd O k 1)) _ (hBO.t.drewN kz)
              have q8 := fun kz => rblocks_any p h n (cO (upd O k 1)) _ (hBO.r.drewN kz)
              have hk1 := k7
              have hBE := E7
              generalize usedTo (cO (upd O k 1)) 240 = uu at *
              generalize cntV n (cO (upd O k 1)) bx = cv at *
              go_wp2_with (fail)
              go_quiet ((first | (go_at_call 19; exact Calls.quiet_of_same ((q1 _).mono fun _ _ h => ⟨h.1, h.2.symm⟩)) | (go_at_call 20; exact Calls.quiet_of_same ((q2 _).mono fun _ _ h => ⟨h.1, h.2.symm⟩)) | (go_at_call 21; exact Calls.quiet_of_same ((q3 _).mono fun _ _ h => ⟨h.1, h.2.symm⟩)) | (go_at_call 22; exact Calls.quiet_of_same ((q4 _).mono fun _ _ h => ⟨h.1, h.2.symm⟩)) | (go_at_call 23; exact ((q5 _).mono fun _ _ h => ⟨h.1, h.2.imp' (fun k => _ + k) fun k e => e.trans (drewN_add _ _ _)⟩)) | (go_at_call 24; exact ((q6 _).mono fun _ _ h => ⟨h.1, h.2.imp' (fun k => _ + k) fun k e => e.trans (drewN_add _ _ _)⟩)) | (go_at_call 25; exact Calls.quiet_of_same ((q7 _).mono fun _ _ h => ⟨h.1, h.2.symm⟩)) | (go_at_call 26; exact Calls.quiet_of_same ((q8 _).mono fun _ _ h => ⟨h.1, h.2.symm⟩))))
              go_wp2_with (fail)
              go_roundw
              case rel => exact ⟨j + 1, g, upd O k 1, by omega, rfl, by go_num, hO1, hgw, hBE.trans ⟨rfl, rfl, rfl, Nat.le_refl _, fun _ _ => rfl⟩, hBO.heap (fun _ _ => rfl) (Nat.le_refl _)⟩
              case measure => simp [intOf]; omega
            · have cA := alloc_none g n _ _ B0.t hS hno
              have cR := ralloc_none p h n _ _ B0.r hS hno
              clear hno
              go_wp2_with (fail)
              refine cA.mono ?_
              rintro e w' ⟨rfl, rfl⟩
              go_wp2_with (fail)
              refine cR.mono ?_
              rintro e w' ⟨rfl, rfl⟩
              clear cA cR
              have hS9 := small_cO hn8 hn200 hO
              have hBO := B0
              have q1 := fun kz => count_any g n (cO (O)) bx _ (hBO.t.drewN kz) hS9
              have q2 := fun kz => rcount_any p h n (cO (O)) bx _ (hBO.r.drewN kz) hS9
              have q3 := fun kz => used_any g n (cO (O)) _ (hBO.t.drewN kz) hS9
              have q4 := fun kz => rused_any p h n (cO (O)) _ (hBO.r.drewN kz) hS9
              have q5 := fun kz => free_any g n (cO (O)) _ (hBO.t.drewN kz) hS9
              have q6 := fun kz => rfree_any p h n (cO (O)) _ (hBO.r.drewN kz) hS9
              have q7 := fun kz => blocks_any g n (cO (O)) _ (hBO.t.drewN kz)
              have q8 := fun kz => rblocks_any p h n (cO (O)) _ (hBO.r.drewN kz)
              have hk1 := k1
              have hBE := E0
              generalize usedTo (cO (O)) 240 = uu at *
              generalize cntV n (cO (O)) bx = cv at *
              go_wp2_with (fail)
              go_quiet ((first | (go_at_call 19; exact Calls.quiet_of_same ((q1 _).mono fun _ _ h => ⟨h.1, h.2.symm⟩)) | (go_at_call 20; exact Calls.quiet_of_same ((q2 _).mono fun _ _ h => ⟨h.1, h.2.symm⟩)) | (go_at_call 21; exact Calls.quiet_of_same ((q3 _).mono fun _ _ h => ⟨h.1, h.2.symm⟩)) | (go_at_call 22; exact Calls.quiet_of_same ((q4 _).mono fun _ _ h => ⟨h.1, h.2.symm⟩)) | (go_at_call 23; exact ((q5 _).mono fun _ _ h => ⟨h.1, h.2.imp' (fun k => _ + k) fun k e => e.trans (drewN_add _ _ _)⟩)) | (go_at_call 24; exact ((q6 _).mono fun _ _ h => ⟨h.1, h.2.imp' (fun k => _ + k) fun k e => e.trans (drewN_add _ _ _)⟩)) | (go_at_call 25; exact Calls.quiet_of_same ((q7 _).mono fun _ _ h => ⟨h.1, h.2.symm⟩)) | (go_at_call 26; exact Calls.quiet_of_same ((q8 _).mono fun _ _ h => ⟨h.1, h.2.symm⟩))))
              go_wp2_with (fail)
              go_roundw
              case rel => exact ⟨j + 1, g, O, by omega, rfl, by go_num, hO, hgw, hBE.trans ⟨rfl, rfl, rfl, Nat.le_refl _, fun _ _ => rfl⟩, hBO.heap (fun _ _ => rfl) (Nat.le_refl _)⟩
              case measure => simp [intOf]; omega
        · as_aux_lemma =>
            cases hcd : cntdB n (cO O) bx with
            | false =>
              have cA := fun k => inc_none g n _ bx _ (B0.t.drewN k) hS hcd
              have cR := fun k => rinc_none p h n _ bx _ (B0.r.drewN k) hS hcd
              clear hcd
              go_wp2_with (fail)
              go_quiet ((first | (go_at_call 14; exact Calls.quiet_of_same ((cA _).mono fun _ _ h => ⟨h.1, h.2.symm⟩)) | (go_at_call 15; exact Calls.quiet_of_same ((cR _).mono fun _ _ h => ⟨h.1, h.2.symm⟩))))
              have B1 := B0.heap (w' := W0.drewN nq) (fun _ _ => rfl) (Nat.le_refl _)
              have E1 : Below w.heap.size w (W0.drewN nq) := E0.trans ⟨rfl, rfl, rfl, Nat.le_refl _, fun _ _ => rfl⟩
              have kq : (W0.drewN nq).cell? ⟨xb, 1, none⟩ = some (.int .i64 bx) := k1
              clear cA cR
              generalize W0.drewN nq = W1 at *
              have hS9 := small_cO hn8 hn200 hO
              have hBO := B1
              have q1 := fun kz => count_any g n (cO (O)) bx _ (hBO.t.drewN kz) hS9
              have q2 := fun kz => rcount_any p h n (cO (O)) bx _ (hBO.r.drewN kz) hS9
              have q3 := fun kz => used_any g n (cO (O)) _ (hBO.t.drewN kz) hS9
              have q4 := fun kz => rused_any p h n (cO (O)) _ (hBO.r.drewN kz) hS9
              have q5 := fun kz => free_any g n (cO (O)) _ (hBO.t.drewN kz) hS9
              have q6 := fun kz => rfree_any p h n (cO (O)) _ (hBO.r.drewN kz) hS9
              have q7 := fun kz => blocks_any g n (cO (O)) _ (hBO.t.drewN kz)
              have q8 := fun kz => rblocks_any p h n (cO (O)) _ (hBO.r.drewN kz)
              have hk1 := kq
              have hBE := E1
              generalize usedTo (cO (O)) 240 = uu at *
              generalize cntV n (cO (O)) bx = cv at *
              go_wp2_with (fail)
              go_quiet ((first | (go_at_call 19; exact Calls.quiet_of_same ((q1 _).mono fun _ _ h => ⟨h.1, h.2.symm⟩)) | (go_at_call 20; exact Calls.quiet_of_same ((q2 _).mono fun _ _ h => ⟨h.1, h.2.symm⟩)) | (go_at_call 21; exact Calls.quiet_of_same ((q3 _).mono fun _ _ h => ⟨h.1, h.2.symm⟩)) | (go_at_call 22; exact Calls.quiet_of_same ((q4 _).mono fun _ _ h => ⟨h.1, h.2.symm⟩)) | (go_at_call 23; exact ((q5 _).mono fun _ _ h => ⟨h.1, h.2.imp' (fun k => _ + k) fun k e => e.trans (drewN_add _ _ _)⟩)) | (go_at_call 24; exact ((q6 _).mono fun _ _ h => ⟨h.1, h.2.imp' (fun k => _ + k) fun k e => e.trans (drewN_add _ _ _)⟩)) | (go_at_call 25; exact Calls.quiet_of_same ((q7 _).mono fun _ _ h => ⟨h.1, h.2.symm⟩)) | (go_at_call 26; exact Calls.quiet_of_same ((q8 _).mono fun _ _ h => ⟨h.1, h.2.symm⟩))))
              go_wp2_with (fail)
              go_roundw
              case rel => exact ⟨j + 1, g, O, by omega, rfl, by go_num, hO, hgw, hBE.trans ⟨rfl, rfl, rfl, Nat.le_refl _, fun _ _ => rfl⟩, hBO.heap (fun _ _ => rfl) (Nat.le_refl _)⟩
              case measure => simp [intOf]; omega
            | true =>
              obtain ⟨x, rfl, hx3, hxn, hx0⟩ := cntd_pos hcd
              have hob : cO O x = O x := by unfold cO; rw [if_neg (by omega)]
              by_cases h255 : O x = 255
              · have cA := fun k => inc_most g n _ x _ (B0.t.drewN k) hS hx3 hxn (by rw [hob]; exact h255)
                have cR := fun k => rinc_most p h n _ x _ (B0.r.drewN k) hS hx3 hxn (by rw [hob]; exact h255)
                clear hcd hob hx0 h255
                obtain ⟨bx, hbx⟩ : ∃ b : Int, (x : Int) = b := ⟨_, rfl⟩
                rw [hbx] at k1 cA cR
                try rw [hbx]
                go_wp2_with (fail)
                go_quiet ((first | (go_at_call 14; exact Calls.quiet_of_same ((cA _).mono fun _ _ h => ⟨h.1, h.2.symm⟩)) | (go_at_call 15; exact Calls.quiet_of_same ((cR _).mono fun _ _ h => ⟨h.1, h.2.symm⟩))))
                have B1 := B0.heap (w' := W0.drewN nq) (fun _ _ => rfl) (Nat.le_refl _)
                have E1 : Below w.heap.size w (W0.drewN nq) := E0.trans ⟨rfl, rfl, rfl, Nat.le_refl _, fun _ _ => rfl⟩
                have kq : (W0.drewN nq).cell? ⟨xb, 1, none⟩ = some (.int .i64 bx) := k1
                clear cA cR
                generalize W0.drewN nq = W1 at *
                have hS9 := small_cO hn8 hn200 hO
                have hBO := B1
                have q1 := fun kz => count_any g n (cO (O)) bx _ (hBO.t.drewN kz) hS9
                have q2 := fun kz => rcount_any p h n (cO (O)) bx _ (hBO.r.drewN kz) hS9
                have q3 := fun kz => used_any g n (cO (O)) _ (hBO.t.drewN kz) hS9
                have q4 := fun kz => rused_any p h n (cO (O)) _ (hBO.r.drewN kz) hS9
                have q5 := fun kz => free_any g n (cO (O)) _ (hBO.t.drewN kz) hS9
                have q6 := fun kz => rfree_any p h n (cO (O)) _ (hBO.r.drewN kz) hS9
                have q7 := fun kz => blocks_any g n (cO (O)) _ (hBO.t.drewN kz)
                have q8 := fun kz => rblocks_any p h n (cO (O)) _ (hBO.r.drewN kz)
                have hk1 := kq
                have hBE := E1
                generalize usedTo (cO (O)) 240 = uu at *
                generalize cntV n (cO (O)) bx = cv at *
                go_wp2_with (fail)
                go_quiet ((first | (go_at_call 19; exact Calls.quiet_of_same ((q1 _).mono fun _ _ h => ⟨h.1, h.2.symm⟩)) | (go_at_call 20; exact Calls.quiet_of_same ((q2 _).mono fun _ _ h => ⟨h.1, h.2.symm⟩)) | (go_at_call 21; exact Calls.quiet_of_same ((q3 _).mono fun _ _ h => ⟨h.1, h.2.symm⟩)) | (go_at_call 22; exact Calls.quiet_of_same ((q4 _).mono fun _ _ h => ⟨h.1, h.2.symm⟩)) | (go_at_call 23; exact ((q5 _).mono fun _ _ h => ⟨h.1, h.2.imp' (fun k => _ + k) fun k e => e.trans (drewN_add _ _ _)⟩)) | (go_at_call 24; exact ((q6 _).mono fun _ _ h => ⟨h.1, h.2.imp' (fun k => _ + k) fun k e => e.trans (drewN_add _ _ _)⟩)) | (go_at_call 25; exact Calls.quiet_of_same ((q7 _).mono fun _ _ h => ⟨h.1, h.2.symm⟩)) | (go_at_call 26; exact Calls.quiet_of_same ((q8 _).mono fun _ _ h => ⟨h.1, h.2.symm⟩))))
                go_wp2_with (fail)
                go_roundw
                case rel => exact ⟨j + 1, g, O, by omega, rfl, by go_num, hO, hgw, hBE.trans ⟨rfl, rfl, rfl, Nat.le_refl _, fun _ _ => rfl⟩, hBO.heap (fun _ _ => rfl) (Nat.le_refl _)⟩
                case measure => simp [intOf]; omega
              · have cA := fun W t => inc_good g n _ x W t hS hx3 hxn hx0 (by rw [hob]; have := hO.c x; omega)
                have cR := fun W t => rinc_good p h n _ x W t hS hx3 hxn hx0 (by rw [hob]; have := hO.c x; omega)
                rw [hob, cO_upd hx3] at cA cR
                have hO1 := okO_upd hO hx3 hxn (v := O x + 1) (by have := hO.c x; omega)
                obtain ⟨P, hP⟩ : ∃ P, upd O x (O x + 1) = P := ⟨_, rfl⟩
                rw [hP] at cA cR hO1
                clear hcd hob hx0 h255 hP
                obtain ⟨bx, hbx⟩ : ∃ b : Int, (x : Int) = b := ⟨_, rfl⟩
                rw [hbx] at cA cR k1
                try rw [hbx]
                have BD := B0.heap (w' := W0.drew) (fun _ _ => rfl) (Nat.le_refl _)
                have ED : Below w.heap.size w W0.drew := E0.trans ⟨rfl, rfl, rfl, Nat.le_refl _, fun _ _ => rfl⟩
                have kd : W0.drew.cell? ⟨xb, 1, none⟩ = some (.int .i64 bx) := k1
                have hxd : xb < W0.drew.heap.size := hxl
                go_wp2_with (fail)
                go_region_held3 (fun W => W.cell? ⟨xb, 1, none⟩ = some (.int .i64 bx)) (first | exact k7 | exact k8 | exact kd | exact k1 | go_keep) (first
                  | (go_at_call 14; refine (cA _ (by first | exact T8 | exact BD.t)).mono ?_; rintro e w7 ⟨rfl, t7⟩; have z7 := t7.sz; (first | (have R7 := t8.t.heap (t7.oth p t8.t.pl (Ne.symm BD.gp)) (t7.oth h t8.t.hl (Ne.symm BD.gh)) t7.sz; have k7 := (cell_of_blk (t7.oth xb (Nat.lt_of_lt_of_le hxd z8) hxg) 1).trans k8; have E7 := E8.trans (t7.keep _ hgw E8.size)) | (have R7 := BD.r.heap (t7.oth p BD.r.pl (Ne.symm BD.gp)) (t7.oth h BD.r.hl (Ne.symm BD.gh)) t7.sz; have k7 := (cell_of_blk (t7.oth xb hxd hxg) 1).trans kd; have E7 := ED.trans (t7.keep _ hgw ED.size))))
                  | (go_at_call 15; refine (cR _ (by first | exact R7 | exact BD.r)).mono ?_; rintro e w8 ⟨rfl, t8⟩; have z8 := t8.sz; (first | (have T8 := t7.t.heap (t8.oth g t7.t.lt BD.gh); have k8 := (cell_of_blk (t8.oth xb (Nat.lt_of_lt_of_le hxd z7) hxh) 1).trans k7; have E8 := E7.trans (t8.keep _ hhw E7.size)) | (have T8 := BD.t.heap (t8.oth g BD.t.lt BD.gh); have k8 := (cell_of_blk (t8.oth xb hxd hxh) 1).trans kd; have E8 := ED.trans (t8.keep _ hhw ED.size)))))
                all_goals
                  first
                    | (have BF : Both w8 g p h n (cO P) := ⟨T8, t8.t, BD.gp, BD.gh⟩; have E9 := E8; have k9 := k8)
                    | (have BF : Both w7 g p h n (cO P) := ⟨t7.t, R7, BD.gp, BD.gh⟩; have E9 := E7; have k9 := k7)
                  clear t7 t8 R7 T8 k7 k8 E7 E8 z7 z8 cA cR kd
                  have hS9 := small_cO hn8 hn200 hO1
                  have hBO := BF
                  have q1 := fun kz => count_any g n (cO (P)) bx _ (hBO.t.drewN kz) hS9
                  have q2 := fun kz => rcount_any p h n (cO (P)) bx _ (hBO.r.drewN kz) hS9
                  have q3 := fun kz => used_any g n (cO (P)) _ (hBO.t.drewN kz) hS9
                  have q4 := fun kz => rused_any p h n (cO (P)) _ (hBO.r.drewN kz) hS9
                  have q5 := fun kz => free_any g n (cO (P)) _ (hBO.t.drewN kz) hS9
                  have q6 := fun kz => rfree_any p h n (cO (P)) _ (hBO.r.drewN kz) hS9
                  have q7 := fun kz => blocks_any g n (cO (P)) _ (hBO.t.drewN kz)
                  have q8 := fun kz => rblocks_any p h n (cO (P)) _ (hBO.r.drewN kz)
                  have hk1 := k9
                  have hBE := E9
                  generalize usedTo (cO (P)) 240 = uu at *
                  generalize cntV n (cO (P)) bx = cv at *
                  go_wp2_with (fail)
                  go_quiet ((first | (go_at_call 19; exact Calls.quiet_of_same ((q1 _).mono fun _ _ h => ⟨h.1, h.2.symm⟩)) | (go_at_call 20; exact Calls.quiet_of_same ((q2 _).mono fun _ _ h => ⟨h.1, h.2.symm⟩)) | (go_at_call 21; exact Calls.quiet_of_same ((q3 _).mono fun _ _ h => ⟨h.1, h.2.symm⟩)) | (go_at_call 22; exact Calls.quiet_of_same ((q4 _).mono fun _ _ h => ⟨h.1, h.2.symm⟩)) | (go_at_call 23; exact ((q5 _).mono fun _ _ h => ⟨h.1, h.2.imp' (fun k => _ + k) fun k e => e.trans (drewN_add _ _ _)⟩)) | (go_at_call 24; exact ((q6 _).mono fun _ _ h => ⟨h.1, h.2.imp' (fun k => _ + k) fun k e => e.trans (drewN_add _ _ _)⟩)) | (go_at_call 25; exact Calls.quiet_of_same ((q7 _).mono fun _ _ h => ⟨h.1, h.2.symm⟩)) | (go_at_call 26; exact Calls.quiet_of_same ((q8 _).mono fun _ _ h => ⟨h.1, h.2.symm⟩))))
                  go_wp2_with (fail)
                  go_roundw
                  case rel => exact ⟨j + 1, g, P, by omega, rfl, by go_num, hO1, hgw, hBE.trans ⟨rfl, rfl, rfl, Nat.le_refl _, fun _ _ => rfl⟩, hBO.heap (fun _ _ => rfl) (Nat.le_refl _)⟩
                  case measure => simp [intOf]; omega
        · as_aux_lemma =>
            cases hcd : cntdB n (cO O) bx with
            | false =>
              have cA := dec_none g n _ bx _ B0.t hS hcd
              have cR := rdec_none p h n _ bx _ B0.r hS hcd
              clear hcd
              go_wp2_with (fail)
              refine cA.mono ?_
              rintro e w' ⟨rfl, rfl⟩
              go_wp2_with (fail)
              refine cR.mono ?_
              rintro e w' ⟨rfl, rfl⟩
              clear cA cR
              have hS9 := small_cO hn8 hn200 hO
              have hBO := B0
              have q1 := fun kz => count_any g n (cO (O)) bx _ (hBO.t.drewN kz) hS9
              have q2 := fun kz => rcount_any p h n (cO (O)) bx _ (hBO.r.drewN kz) hS9
              have q3 := fun kz => used_any g n (cO (O)) _ (hBO.t.drewN kz) hS9
              have q4 := fun kz => rused_any p h n (cO (O)) _ (hBO.r.drewN kz) hS9
              have q5 := fun kz => free_any g n (cO (O)) _ (hBO.t.drewN kz) hS9
              have q6 := fun kz => rfree_any p h n (cO (O)) _ (hBO.r.drewN kz) hS9
              have q7 := fun kz => blocks_any g n (cO (O)) _ (hBO.t.drewN kz)
              have q8 := fun kz => rblocks_any p h n (cO (O)) _ (hBO.r.drewN kz)
              have hk1 := k1
              have hBE := E0
              generalize usedTo (cO (O)) 240 = uu at *
              generalize cntV n (cO (O)) bx = cv at *
              go_wp2_with (fail)
              go_quiet ((first | (go_at_call 19; exact Calls.quiet_of_same ((q1 _).mono fun _ _ h => ⟨h.1, h.2.symm⟩)) | (go_at_call 20; exact Calls.quiet_of_same ((q2 _).mono fun _ _ h => ⟨h.1, h.2.symm⟩)) | (go_at_call 21; exact Calls.quiet_of_same ((q3 _).mono fun _ _ h => ⟨h.1, h.2.symm⟩)) | (go_at_call 22; exact Calls.quiet_of_same ((q4 _).mono fun _ _ h => ⟨h.1, h.2.symm⟩)) | (go_at_call 23; exact ((q5 _).mono fun _ _ h => ⟨h.1, h.2.imp' (fun k => _ + k) fun k e => e.trans (drewN_add _ _ _)⟩)) | (go_at_call 24; exact ((q6 _).mono fun _ _ h => ⟨h.1, h.2.imp' (fun k => _ + k) fun k e => e.trans (drewN_add _ _ _)⟩)) | (go_at_call 25; exact Calls.quiet_of_same ((q7 _).mono fun _ _ h => ⟨h.1, h.2.symm⟩)) | (go_at_call 26; exact Calls.quiet_of_same ((q8 _).mono fun _ _ h => ⟨h.1, h.2.symm⟩))))
              go_wp2_with (fail)
              go_roundw
              case rel => exact ⟨j + 1, g, O, by omega, rfl, by go_num, hO, hgw, hBE.trans ⟨rfl, rfl, rfl, Nat.le_refl _, fun _ _ => rfl⟩, hBO.heap (fun _ _ => rfl) (Nat.le_refl _)⟩
              case measure => simp [intOf]; omega
            | true =>
              obtain ⟨x, rfl, hx3, hxn, hx0⟩ := cntd_pos hcd
              have hob : cO O x = O x := by unfold cO; rw [if_neg (by omega)]
              have cA := fun W t => dec_good g n _ x W t hS hx3 hxn hx0
              have cR := fun W t => rdec_good p h n _ x W t hS hx3 hxn hx0
              rw [hob, cO_upd hx3] at cA cR
              have hO1 := okO_upd hO hx3 hxn (v := O x - 1) (by have := hO.c x; omega)
              obtain ⟨P, hP⟩ : ∃ P, upd O x (O x - 1) = P := ⟨_, rfl⟩
              rw [hP] at cA cR hO1
              obtain ⟨ov, hov⟩ : ∃ v, O x - 1 = v := ⟨_, rfl⟩
              rw [hov] at cA cR
              clear hcd hob hx0 hP hov
              obtain ⟨bx, hbx⟩ : ∃ b : Int, (x : Int) = b := ⟨_, rfl⟩
              rw [hbx] at cA cR k1
              try rw [hbx]
              go_wp2_with (fail)
              refine (cA _ B0.t).mono ?_
              rintro e w6 ⟨rfl, t6⟩
              obtain ⟨T6, R6⟩ := B0.tab t6
              have k6 : w6.cell? ⟨xb, 1, none⟩ = some (.int .i64 bx) := by rw [cell_of_blk (t6.oth xb hxl hxg) 1]; exact k1
              go_wp2_with (fail)
              refine (cR _ R6).mono ?_
              rintro e w7 ⟨rfl, t7⟩
              have E7 : Below w.heap.size w w7 := (E0.trans (t6.keep _ hgw E0.size)).trans (t7.keep _ hhw (Nat.le_trans E0.size t6.sz))
              have B7 : Both w7 g p h n (cO P) := ⟨T6.heap (t7.oth g T6.lt B0.gh), t7.t, B0.gp, B0.gh⟩
              have k7 : w7.cell? ⟨xb, 1, none⟩ = some (.int .i64 bx) := by
                rw [cell_of_blk (t7.oth xb (Nat.lt_of_lt_of_le hxl t6.sz) hxh) 1]; exact k6
              clear t6 T6 R6 t7 cA cR k6
              have hS9 := small_cO hn8 hn200 hO1
              have hBO := B7
              have q1 := fun kz => count_any g n (cO (P)) bx _ (hBO.t.drewN kz) hS9
              have q2 := fun kz => rcount_any p h n (cO (P)) bx _ (hBO.r.drewN kz) hS9
              have q3 := fun kz => used_any g n (cO (P)) _ (hBO.t.drewN kz) hS9
              have q4 := fun kz => rused_any p h n (cO (P)) _ (hBO.r.drewN kz) hS9
              have q5 := fun kz => free_any g n (cO (P)) _ (hBO.t.drewN kz) hS9
              have q6 := fun kz => rfree_any p h n (cO (P)) _ (hBO.r.drewN kz) hS9
              have q7 := fun kz => blocks_any g n (cO (P)) _ (hBO.t.drewN kz)
              have q8 := fun kz => rblocks_any p h n (cO (P)) _ (hBO.r.drewN kz)
              have hk1 := k7
              have hBE := E7
              generalize usedTo (cO (P)) 240 = uu at *
              generalize cntV n (cO (P)) bx = cv at *
              go_wp2_with (fail)
              go_quiet ((first | (go_at_call 19; exact Calls.quiet_of_same ((q1 _).mono fun _ _ h => ⟨h.1, h.2.symm⟩)) | (go_at_call 20; exact Calls.quiet_of_same ((q2 _).mono fun _ _ h => ⟨h.1, h.2.symm⟩)) | (go_at_call 21; exact Calls.quiet_of_same ((q3 _).mono fun _ _ h => ⟨h.1, h.2.symm⟩)) | (go_at_call 22; exact Calls.quiet_of_same ((q4 _).mono fun _ _ h => ⟨h.1, h.2.symm⟩)) | (go_at_call 23; exact ((q5 _).mono fun _ _ h => ⟨h.1, h.2.imp' (fun k => _ + k) fun k e => e.trans (drewN_add _ _ _)⟩)) | (go_at_call 24; exact ((q6 _).mono fun _ _ h => ⟨h.1, h.2.imp' (fun k => _ + k) fun k e => e.trans (drewN_add _ _ _)⟩)) | (go_at_call 25; exact Calls.quiet_of_same ((q7 _).mono fun _ _ h => ⟨h.1, h.2.symm⟩)) | (go_at_call 26; exact Calls.quiet_of_same ((q8 _).mono fun _ _ h => ⟨h.1, h.2.symm⟩))))
              go_wp2_with (fail)
              go_roundw
              case rel => exact ⟨j + 1, g, P, by omega, rfl, by go_num, hO1, hgw, hBE.trans ⟨rfl, rfl, rfl, Nat.le_refl _, fun _ _ => rfl⟩, hBO.heap (fun _ _ => rfl) (Nat.le_refl _)⟩
              case measure => simp [intOf]; omega
        · as_aux_lemma =>
            cases hcd : cntdB n (cO O) bx with
            | false =>
              have cA := dec_none g n _ bx _ B0.t hS hcd
              have cR := rdec_none p h n _ bx _ B0.r hS hcd
              clear hcd
              go_wp2_with (fail)
              refine cA.mono ?_
              rintro e w' ⟨rfl, rfl⟩
              go_wp2_with (fail)
              refine cR.mono ?_
              rintro e w' ⟨rfl, rfl⟩
              clear cA cR
              have hS9 := small_cO hn8 hn200 hO
              have hBO := B0
              have q1 := fun kz => count_any g n (cO (O)) bx _ (hBO.t.drewN kz) hS9
              have q2 := fun kz => rcount_any p h n (cO (O)) bx _ (hBO.r.drewN kz) hS9
              have q3 := fun kz => used_any g n (cO (O)) _ (hBO.t.drewN kz) hS9
              have q4 := fun kz => rused_any p h n (cO (O)) _ (hBO.r.drewN kz) hS9
              have q5 := fun kz => free_any g n (cO (O)) _ (hBO.t.drewN kz) hS9
              have q6 := fun kz => rfree_any p h n (cO (O)) _ (hBO.r.drewN kz) hS9
              have q7 := fun kz => blocks_any g n (cO (O)) _ (hBO.t.drewN kz)
              have q8 := fun kz => rblocks_any p h n (cO (O)) _ (hBO.r.drewN kz)
              have hk1 := k1
              have hBE := E0
              generalize usedTo (cO (O)) 240 = uu at *
              generalize cntV n (cO (O)) bx = cv at *
              go_wp2_with (fail)
              go_quiet ((first | (go_at_call 19; exact Calls.quiet_of_same ((q1 _).mono fun _ _ h => ⟨h.1, h.2.symm⟩)) | (go_at_call 20; exact Calls.quiet_of_same ((q2 _).mono fun _ _ h => ⟨h.1, h.2.symm⟩)) | (go_at_call 21; exact Calls.quiet_of_same ((q3 _).mono fun _ _ h => ⟨h.1, h.2.symm⟩)) | (go_at_call 22; exact Calls.quiet_of_same ((q4 _).mono fun _ _ h => ⟨h.1, h.2.symm⟩)) | (go_at_call 23; exact ((q5 _).mono fun _ _ h => ⟨h.1, h.2.imp' (fun k => _ + k) fun k e => e.trans (drewN_add _ _ _)⟩)) | (go_at_call 24; exact ((q6 _).mono fun _ _ h => ⟨h.1, h.2.imp' (fun k => _ + k) fun k e => e.trans (drewN_add _ _ _)⟩)) | (go_at_call 25; exact Calls.quiet_of_same ((q7 _).mono fun _ _ h => ⟨h.1, h.2.symm⟩)) | (go_at_call 26; exact Calls.quiet_of_same ((q8 _).mono fun _ _ h => ⟨h.1, h.2.symm⟩))))
              go_wp2_with (fail)
              go_roundw
              case rel => exact ⟨j + 1, g, O, by omega, rfl, by go_num, hO, hgw, hBE.trans ⟨rfl, rfl, rfl, Nat.le_refl _, fun _ _ => rfl⟩, hBO.heap (fun _ _ => rfl) (Nat.le_refl _)⟩
              case measure => simp [intOf]; omega
            | true =>
              obtain ⟨x, rfl, hx3, hxn, hx0⟩ := cntd_pos hcd
              have hob : cO O x = O x := by unfold cO; rw [if_neg (by omega)]
              have cA := fun W t => dec_good g n _ x W t hS hx3 hxn hx0
              have cR := fun W t => rdec_good p h n _ x W t hS hx3 hxn hx0
              rw [hob, cO_upd hx3] at cA cR
              have hO1 := okO_upd hO hx3 hxn (v := O x - 1) (by have := hO.c x; omega)
              obtain ⟨P, hP⟩ : ∃ P, upd O x (O x - 1) = P := ⟨_, rfl⟩
              rw [hP] at cA cR hO1
              obtain ⟨ov, hov⟩ : ∃ v, O x - 1 = v := ⟨_, rfl⟩
              rw [hov] at cA cR
              clear hcd hob hx0 hP hov
              obtain ⟨bx, hbx⟩ : ∃ b : Int, (x : Int) = b := ⟨_, rfl⟩
              rw [hbx] at cA cR k1
              try rw [hbx]
              go_wp2_with (fail)
              refine (cA _ B0.t).mono ?_
              rintro e w6 ⟨rfl, t6⟩
              obtain ⟨T6, R6⟩ := B0.tab t6
              have k6 : w6.cell? ⟨xb, 1, none⟩ = some (.int .i64 bx) := by rw [cell_of_blk (t6.oth xb hxl hxg) 1]; exact k1
              go_wp2_with (fail)
              refine (cR _ R6).mono ?_
              rintro e w7 ⟨rfl, t7⟩
              have E7 : Below w.heap.size w w7 := (E0.trans (t6.keep _ hgw E0.size)).trans (t7.keep _ hhw (Nat.le_trans E0.size t6.sz))
              have B7 : Both w7 g p h n (cO P) := ⟨T6.heap (t7.oth g T6.lt B0.gh), t7.t, B0.gp, B0.gh⟩
              have k7 : w7.cell? ⟨xb, 1, none⟩ = some (.int .i64 bx) := by
                rw [cell_of_blk (t7.oth xb (Nat.lt_of_lt_of_le hxl t6.sz) hxh) 1]; exact k6
              clear t6 T6 R6 t7 cA cR k6
              have hS9 := small_cO hn8 hn200 hO1
              have hBO := B7
              have q1 := fun kz => count_any g n (cO (P)) bx _ (hBO.t.drewN kz) hS9
              have q2 := fun kz => rcount_any p h n (cO (P)) bx _ (hBO.r.drewN kz) hS9
              have q3 := fun kz => used_any g n (cO (P)) _ (hBO.t.drewN kz) hS9
              have q4 := fun kz => rused_any p h n (cO (P)) _ (hBO.r.drewN kz) hS9
              have q5 := fun kz => free_any g n (cO (P)) _ (hBO.t.drewN kz) hS9
              have q6 := fun kz => rfree_any p h n (cO (P)) _ (hBO.r.drewN kz) hS9
              have q7 := fun kz => blocks_any g n (cO (P)) _ (hBO.t.drewN kz)
              have q8 := fun kz => rblocks_any p h n (cO (P)) _ (hBO.r.drewN kz)
              have hk1 := k7
              have hBE := E7
              generalize usedTo (cO (P)) 240 = uu at *
              generalize cntV n (cO (P)) bx = cv at *
              go_wp2_with (fail)
              go_quiet ((first | (go_at_call 19; exact Calls.quiet_of_same ((q1 _).mono fun _ _ h => ⟨h.1, h.2.symm⟩)) | (go_at_call 20; exact Calls.quiet_of_same ((q2 _).mono fun _ _ h => ⟨h.1, h.2.symm⟩)) | (go_at_call 21; exact Calls.quiet_of_same ((q3 _).mono fun _ _ h => ⟨h.1, h.2.symm⟩)) | (go_at_call 22; exact Calls.quiet_of_same ((q4 _).mono fun _ _ h => ⟨h.1, h.2.symm⟩)) | (go_at_call 23; exact ((q5 _).mono fun _ _ h => ⟨h.1, h.2.imp' (fun k => _ + k) fun k e => e.trans (drewN_add _ _ _)⟩)) | (go_at_call 24; exact ((q6 _).mono fun _ _ h => ⟨h.1, h.2.imp' (fun k => _ + k) fun k e => e.trans (drewN_add _ _ _)⟩)) | (go_at_call 25; exact Calls.quiet_of_same ((q7 _).mono fun _ _ h => ⟨h.1, h.2.symm⟩)) | (go_at_call 26; exact Calls.quiet_of_same ((q8 _).mono fun _ _ h => ⟨h.1, h.2.symm⟩))))
              go_wp2_with (fail)
              go_roundw
              case rel => exact ⟨j + 1, g, P, by omega, rfl, by go_num, hO1, hgw, hBE.trans ⟨rfl, rfl, rfl, Nat.le_refl _, fun _ _ => rfl⟩, hBO.heap (fun _ _ => rfl) (Nat.le_refl _)⟩
              case measure => simp [intOf]; omega
        · as_aux_lemma =>
            have cK := fun W t => clone_any g n (cO O) W t
            go_wp2_with (fail)
            refine (cK _ B0.t).mono ?_
            rintro e w6 ⟨rfl, b6, t6⟩
            have B6 := B0.below b6
            have E6 := E0.trans (b6.mono E0.size)
            have k6 : w6.cell? ⟨xb, 1, none⟩ = some (.int .i64 bx) := by rw [b6.cell (p := ⟨xb, 1, none⟩) hxl]; exact k1
            obtain ⟨g', hg'⟩ : ∃ g', W0.heap.size = g' := ⟨_, rfl⟩
            rw [hg'] at t6
            try rw [hg']
            have hgg : g < g' := by rw [← hg']; exact B0.t.lt
            have hpg : p < g' := by rw [← hg']; exact B0.r.pl
            have hhg : h < g' := by rw [← hg']; exact B0.r.hl
            have hxg' : xb < g' := by rw [← hg']; exact hxl
            have hxl6 : xb < w6.heap.size := Nat.lt_of_lt_of_le hxl b6.size
            have hgw' : w.heap.size ≤ g' := by omega
            clear hg' b6 cK
            rcases least_free n (cO O) with ⟨k, k1', k2, k3⟩ | hno
            · have cA := alloc_some g n _ _ B6.t hS k k1' k2 k3
              clear k2 k3
              go_wp2_with (fail)
              refine cA.mono ?_
              rintro e w7 ⟨rfl, t7⟩
              have E7 := E6.trans (t7.keep _ hgw E6.size)
              have B7 : Both w7 g' p h n (cO O) := ⟨t6.heap (t7.oth g' t6.lt (by omega)), B6.r.heap (t7.oth p B6.r.pl (Ne.symm B6.gp)) (t7.oth h B6.r.hl (Ne.symm B6.gh)) t7.sz, by omega, by omega⟩
              have k7 : w7.cell? ⟨xb, 1, none⟩ = some (.int .i64 bx) := by rw [cell_of_blk (t7.oth xb hxl6 hxg) 1]; exact k6
              clear t7 t6 cA B6 k6
              have hS9 := small_cO hn8 hn200 hO
              have hBO := B7
              have q1 := fun kz => count_any g' n (cO (O)) bx _ (hBO.t.drewN kz) hS9
              have q2 := fun kz => rcount_any p h n (cO (O)) bx _ (hBO.r.drewN kz) hS9
              have q3 := fun kz => used_any g' n (cO (O)) _ (hBO.t.drewN kz) hS9
              have q4 := fun kz => rused_any p h n (cO (O)) _ (hBO.r.drewN kz) hS9
              have q5 := fun kz => free_any g' n (cO (O)) _ (hBO.t.drewN kz) hS9
              have q6 := fun kz => rfree_any p h n (cO (O)) _ (hBO.r.drewN kz) hS9
              have q7 := fun kz => blocks_any g' n (cO (O)) _ (hBO.t.drewN kz)
              have q8 := fun kz => rblocks_any p h n (cO (O)) _ (hBO.r.drewN kz)
              have hk1 := k7
              have hBE := E7
              generalize usedTo (cO (O)) 240 = uu at *
              generalize cntV n (cO (O)) bx = cv at *
              go_wp2_with (fail)
              go_quiet ((first | (go_at_call 19; exact Calls.quiet_of_same ((q1 _).mono fun _ _ h => ⟨h.1, h.2.symm⟩)) | (go_at_call 20; exact Calls.quiet_of_same ((q2 _).mono fun _ _ h => ⟨h.1, h.2.symm⟩)) | (go_at_call 21; exact Calls.quiet_of_same ((q3 _).mono fun _ _ h => ⟨h.1, h.2.symm⟩)) | (go_at_call 22; exact Calls.quiet_of_same ((q4 _).mono fun _ _ h => ⟨h.1, h.2.symm⟩)) | (go_at_call 23; exact ((q5 _).mono fun _ _ h => ⟨h.1, h.2.imp' (fun k => _ + k) fun k e => e.trans (drewN_add _ _ _)⟩)) | (go_at_call 24; exact ((q6 _).mono fun _ _ h => ⟨h.1, h.2.imp' (fun k => _ + k) fun k e => e.trans (drewN_add _ _ _)⟩)) | (go_at_call 25; exact Calls.quiet_of_same ((q7 _).mono fun _ _ h => ⟨h.1, h.2.symm⟩)) | (go_at_call 26; exact Calls.quiet_of_same ((q8 _).mono fun _ _ h => ⟨h.1, h.2.symm⟩))))
              go_wp2_with (fail)
              go_roundw
              case rel => exact ⟨j + 1, g', O, by omega, rfl, by go_num, hO, hgw', hBE.trans ⟨rfl, rfl, rfl, Nat.le_refl _, fun _ _ => rfl⟩, hBO.heap (fun _ _ => rfl) (Nat.le_refl _)⟩
              case measure => simp [intOf]; omega
            · have cA := alloc_none g n _ _ B6.t hS hno
              clear hno
              go_wp2_with (fail)
              refine cA.mono ?_
              rintro e w' ⟨rfl, rfl⟩
              have B7 : Both w6 g' p h n (cO O) := ⟨t6, B6.r, by omega, by omega⟩
              clear t6 cA B6
              have hS9 := small_cO hn8 hn200 hO
              have hBO := B7
              have q1 := fun kz => count_any g' n (cO (O)) bx _ (hBO.t.drewN kz) hS9
              have q2 := fun kz => rcount_any p h n (cO (O)) bx _ (hBO.r.drewN kz) hS9
              have q3 := fun kz => used_any g' n (cO (O)) _ (hBO.t.drewN kz) hS9
              have q4 := fun kz => rused_any p h n (cO (O)) _ (hBO.r.drewN kz) hS9
              have q5 := fun kz => free_any g' n (cO (O)) _ (hBO.t.drewN kz) hS9
              have q6 := fun kz => rfree_any p h n (cO (O)) _ (hBO.r.drewN kz) hS9
              have q7 := fun kz => blocks_any g' n (cO (O)) _ (hBO.t.drewN kz)
              have q8 := fun kz => rblocks_any p h n (cO (O)) _ (hBO.r.drewN kz)
              have hk1 := k6
              have hBE := E6
              generalize usedTo (cO (O)) 240 = uu at *
              generalize cntV n (cO (O)) bx = cv at *
              go_wp2_with (fail)
              go_quiet ((first | (go_at_call 19; exact Calls.quiet_of_same ((q1 _).mono fun _ _ h => ⟨h.1, h.2.symm⟩)) | (go_at_call 20; exact Calls.quiet_of_same ((q2 _).mono fun _ _ h => ⟨h.1, h.2.symm⟩)) | (go_at_call 21; exact Calls.quiet_of_same ((q3 _).mono fun _ _ h => ⟨h.1, h.2.symm⟩)) | (go_at_call 22; exact Calls.quiet_of_same ((q4 _).mono fun _ _ h => ⟨h.1, h.2.symm⟩)) | (go_at_call 23; exact ((q5 _).mono fun _ _ h => ⟨h.1, h.2.imp' (fun k => _ + k) fun k e => e.trans (drewN_add _ _ _)⟩)) | (go_at_call 24; exact ((q6 _).mono fun _ _ h => ⟨h.1, h.2.imp' (fun k => _ + k) fun k e => e.trans (drewN_add _ _ _)⟩)) | (go_at_call 25; exact Calls.quiet_of_same ((q7 _).mono fun _ _ h => ⟨h.1, h.2.symm⟩)) | (go_at_call 26; exact Calls.quiet_of_same ((q8 _).mono fun _ _ h => ⟨h.1, h.2.symm⟩))))
              go_wp2_with (fail)
              go_roundw
              case rel => exact ⟨j + 1, g', O, by omega, rfl, by go_num, hO, hgw', hBE.trans ⟨rfl, rfl, rfl, Nat.le_refl _, fun _ _ => rfl⟩, hBO.heap (fun _ _ => rfl) (Nat.le_refl _)⟩
              case measure => simp [intOf]; omega
        · as_aux_lemma =>
            have hS9 := small_cO hn8 hn200 hO
            have hBO := B0
            have q1 := fun kz => count_any g n (cO (O)) bx _ (hBO.t.drewN kz) hS9
            have q2 := fun kz => rcount_any p h n (cO (O)) bx _ (hBO.r.drewN kz) hS9
            have q3 := fun kz => used_any g n (cO (O)) _ (hBO.t.drewN kz) hS9
            have q4 := fun kz => rused_any p h n (cO (O)) _ (hBO.r.drewN kz) hS9
            have q5 := fun kz => free_any g n (cO (O)) _ (hBO.t.drewN kz) hS9
            have q6 := fun kz => rfree_any p h n (cO (O)) _ (hBO.r.drewN kz) hS9
            have q7 := fun kz => blocks_any g n (cO (O)) _ (hBO.t.drewN kz)
            have q8 := fun kz => rblocks_any p h n (cO (O)) _ (hBO.r.drewN kz)
            have hk1 := k1
            have hBE := E0
            generalize usedTo (cO (O)) 240 = uu at *
            generalize cntV n (cO (O)) bx = cv at *
            go_wp2_with (fail)
            go_quiet ((first | (go_at_call 19; exact Calls.quiet_of_same ((q1 _).mono fun _ _ h => ⟨h.1, h.2.symm⟩)) | (go_at_call 20; exact Calls.quiet_of_same ((q2 _).mono fun _ _ h => ⟨h.1, h.2.symm⟩)) | (go_at_call 21; exact Calls.quiet_of_same ((q3 _).mono fun _ _ h => ⟨h.1, h.2.symm⟩)) | (go_at_call 22; exact Calls.quiet_of_same ((q4 _).mono fun _ _ h => ⟨h.1, h.2.symm⟩)) | (go_at_call 23; exact ((q5 _).mono fun _ _ h => ⟨h.1, h.2.imp' (fun k => _ + k) fun k e => e.trans (drewN_add _ _ _)⟩)) | (go_at_call 24; exact ((q6 _).mono fun _ _ h => ⟨h.1, h.2.imp' (fun k => _ + k) fun k e => e.trans (drewN_add _ _ _)⟩)) | (go_at_call 25; exact Calls.quiet_of_same ((q7 _).mono fun _ _ h => ⟨h.1, h.2.symm⟩)) | (go_at_call 26; exact Calls.quiet_of_same ((q8 _).mono fun _ _ h => ⟨h.1, h.2.symm⟩))))
            go_wp2_with (fail)
            go_roundw
            case rel => exact ⟨j + 1, g, O, by omega, rfl, by go_num, hO, hgw, hBE.trans ⟨rfl, rfl, rfl, Nat.le_refl _, fun _ _ => rfl⟩, hBO.heap (fun _ _ => rfl) (Nat.le_refl _)⟩
            case measure => simp [intOf]; omega
      | false =>
        go_wp2_with (fail)
        try rw [hxb]
        generalize hw5 : wr.alloc (.cells #[.int .i64 wh, .int .i64 bb, .bool false] 32) = W0 at *
        clear hw5 hT hB hbx d0 d1 d2 hxb hBs l1 l2 l3 kf cn
        refine (c7 _).mono ?_
        rintro e w' ⟨rfl, rfl⟩
        have B0 := B5
        have E0 := E5
        clear k0 k2 c7 B5 E5
        generalize bb = bx at *
        rcases hwt with rfl | rfl | rfl | rfl | rfl | rfl | rfl
        · as_aux_lemma =>
            rcases least_free n (cO O) with ⟨k, k1', k2, k3⟩ | hno
            · have hk3 : 3 ≤ k := by
                rcases Nat.lt_or_ge k 3 with h | h
                · unfold cO at k2; rw [if_pos h] at k2; cases k2
                · exact h
              have cA := fun W t => alloc_some g n _ W t hS k k1' k2 k3
              have cR := fun W t => ralloc_some p h n _ W t hS k k1' k2 k3
              have hO1 := okO_upd hO hk3 k1' (v := 1) (by decide)
              rw [cO_upd hk3] at cA cR
              clear k2 k3
              go_wp2_with (fail)
              refine (cA _ B0.t).mono ?_
              rintro e w6 ⟨rfl, t6⟩
              obtain ⟨T6, R6⟩ := B0.tab t6
              go_wp2_with (fail)
              refine (cR _ R6).mono ?_
              rintro e w7 ⟨rfl, t7⟩
              have E7 : Below w.heap.size w w7 := (E0.trans (t6.keep _ hgw E0.size)).trans (t7.keep _ hhw (Nat.le_trans E0.size t6.sz))
              have B7 : Both w7 g p h n (cO (upd O k 1)) := ⟨T6.heap (t7.oth g T6.lt B0.gh), t7.t, B0.gp, B0.gh⟩
              have k7 : w7.cell? ⟨xb, 1, none⟩ = some (.int .i64 bx) := by
                rw [cell_of_blk (t7.oth xb (Nat.lt_of_lt_of_le hxl t6.sz) hxh) 1, cell_of_blk (t6.oth xb hxl hxg) 1]; exact k1
              clear t6 T6 R6 t7 cA cR
              have hS9 := small_cO hn8 hn200 hO1
              have hBO := B7
              have q1 := fun kz => count_any g n (cO (upd O k 1)) bx _ (hBO.t.drewN kz) hS9
              have q2 := fun kz => rcount_any p h n (cO (upd O k 1)) bx _ (hBO.r.drewN kz) hS9
              have q3 := fun kz => used_any g n (cO (upd O k 1)) _ (hBO.t.drewN kz) hS9
              have q4 := fun kz => rused_any p h n (cO (upd O k 1)) _ (hBO.r.drewN kz) hS9
              have q5 := fun kz => free_any g n (cO (upd O k 1)) _ (hBO.t.drewN kz) hS9
              have q6 := fun kz => rfree_any p h n (cO (upd O k 1)) _ (hBO.r.drewN kz) hS9
              have q7 := fun kz => blocks_any g n (cO (upd O k 1)) _ (hBO.t.drewN kz)
              have q8 := fun kz => rblocks_any p h n (cO (upd O k 1)) _ (hBO.r.drewN kz)
              have hk1 := k7
              have hBE := E7
              generalize usedTo (cO (upd O k 1)) 240 = uu at *
              generalize cntV n (cO (upd O k 1)) bx = cv at *
              go_wp2_with (fail)
              go_quiet ((first | (go_at_call 19; exact Calls.quiet_of_same ((q1 _).mono fun _ _ h => ⟨h.1, h.2.symm⟩)) | (go_at_call 20; exact Calls.quiet_of_same ((q2 _).mono fun _ _ h => ⟨h.1, h.2.symm⟩)) | (go_at_call 21; exact Calls.quiet_of_same ((q3 _).mono fun _ _ h => ⟨h.1, h.2.symm⟩)) | (go_at_call 22; exact Calls.quiet_of_same ((q4 _).mono fun _ _ h => ⟨h.1, h.2.symm⟩)) | (go_at_call 23; exact ((q5 _).mono fun _ _ h => ⟨h.1, h.2.imp' (fun k => _ + k) fun k e => e.trans (drewN_add _ _ _)⟩)) | (go_at_call 24; exact ((q6 _).mono fun _ _ h => ⟨h.1, h.2.imp' (fun k => _ + k) fun k e => e.trans (drewN_add _ _ _)⟩)) | (go_at_call 25; exact Calls.quiet_of_same ((q7 _).mono fun _ _ h => ⟨h.1, h.2.symm⟩)) | (go_at_call 26; exact Calls.quiet_of_same ((q8 _).mono fun _ _ h => ⟨h.1, h.2.symm⟩))))
              go_wp2_with (fail)
              go_roundw
              case rel => exact ⟨j + 1, g, upd O k 1, by omega, rfl, by go_num, hO1, hgw, hBE.trans ⟨rfl, rfl, rfl, Nat.le_refl _, fun _ _ => rfl⟩, hBO.heap (fun _ _ => rfl) (Nat.le_refl _)⟩
              case measure => simp [intOf]; omega
            · have cA := alloc_none g n _ _ B0.t hS hno
              have cR := ralloc_none p h n _ _ B0.r hS hno
              clear hno
              go_wp2_with (fail)
              refine cA.mono ?_
              rintro e w' ⟨rfl, rfl⟩
              go_wp2_with (fail)
              refine cR.mono ?_
              rintro e w' ⟨rfl, rfl⟩
              clear cA cR
              have hS9 := small_cO hn8 hn200 hO
              have hBO := B0
              have q1 := fun kz => count_any g n (cO (O)) bx _ (hBO.t.drewN kz) hS9
              have q2 := fun kz => rcount_any p h n (cO (O)) bx _ (hBO.r.drewN kz) hS9
              have q3 := fun kz => used_any g n (cO (O)) _ (hBO.t.drewN kz) hS9
              have q4 := fun kz => rused_any p h n (cO (O)) _ (hBO.r.drewN kz) hS9
              have q5 := fun kz => free_any g n (cO (O)) _ (hBO.t.drewN kz) hS9
              have q6 := fun kz => rfree_any p h n (cO (O)) _ (hBO.r.drewN kz) hS9
              have q7 := fun kz => blocks_any g n (cO (O)) _ (hBO.t.drewN kz)
              have q8 := fun kz => rblocks_any p h n (cO (O)) _ (hBO.r.drewN kz)
              have hk1 := k1
              have hBE := E0
              generalize usedTo (cO (O)) 240 = uu at *
              generalize cntV n (cO (O)) bx = cv at *
              go_wp2_with (fail)
              go_quiet ((first | (go_at_call 19; exact Calls.quiet_of_same ((q1 _).mono fun _ _ h => ⟨h.1, h.2.symm⟩)) | (go_at_call 20; exact Calls.quiet_of_same ((q2 _).mono fun _ _ h => ⟨h.1, h.2.symm⟩)) | (go_at_call 21; exact Calls.quiet_of_same ((q3 _).mono fun _ _ h => ⟨h.1, h.2.symm⟩)) | (go_at_call 22; exact Calls.quiet_of_same ((q4 _).mono fun _ _ h => ⟨h.1, h.2.symm⟩)) | (go_at_call 23; exact ((q5 _).mono fun _ _ h => ⟨h.1, h.2.imp' (fun k => _ + k) fun k e => e.trans (drewN_add _ _ _)⟩)) | (go_at_call 24; exact ((q6 _).mono fun _ _ h => ⟨h.1, h.2.imp' (fun k => _ + k) fun k e => e.trans (drewN_add _ _ _)⟩)) | (go_at_call 25; exact Calls.quiet_of_same ((q7 _).mono fun _ _ h => ⟨h.1, h.2.symm⟩)) | (go_at_call 26; exact Calls.quiet_of_same ((q8 _).mono fun _ _ h => ⟨h.1, h.2.symm⟩))))
              go_wp2_with (fail)
              go_roundw
              case rel => exact ⟨j + 1, g, O, by omega, rfl, by go_num, hO, hgw, hBE.trans ⟨rfl, rfl, rfl, Nat.le_refl _, fun _ _ => rfl⟩, hBO.heap (fun _ _ => rfl) (Nat.le_refl _)⟩
              case measure => simp [intOf]; omega
        · as_aux_lemma =>
            rcases least_free n (cO O) with ⟨k, k1', k2, k3⟩ | hno
            · have hk3 : 3 ≤ k := by
                rcases Nat.lt_or_ge k 3 with h | h
                · unfold cO at k2; rw [if_pos h] at k2; cases k2
                · exact h
              have cA := fun W t => alloc_some g n _ W t hS k k1' k2 k3
              have cR := fun W t => ralloc_some p h n _ W t hS k k1' k2 k3
              have hO1 := okO_upd hO hk3 k1' (v := 1) (by decide)
              rw [cO_upd hk3] at cA cR
              clear k2 k3
              go_wp2_with (fail)
              refine (cA _ B0.t).mono ?_
              rintro e w6 ⟨rfl, t6⟩
              obtain ⟨T6, R6⟩ := B0.tab t6
              go_wp2_with (fail)
              refine (cR _ R6).mono ?_
              rintro e w7 ⟨rfl, t7⟩
              have E7 : Below w.heap.size w w7 := (E0.trans (t6.keep _ hgw E0.size)).trans (t7.keep _ hhw (Nat.le_trans E0.size t6.sz))
              have B7 : Both w7 g p h n (cO (upd O k 1)) := ⟨T6.heap (t7.oth g T6.lt B0.gh), t7.t, B0.gp, B0.gh⟩
              have k7 : w7.cell? ⟨xb, 1, none⟩ = some (.int .i64 bx) := by
                rw [cell_of_blk (t7.oth xb (Nat.lt_of_lt_of_le hxl t6.sz) hxh) 1, cell_of_blk (t6.oth xb hxl hxg) 1]; exact k1
              clear t6 T6 R6 t7 cA cR
              have hS9 := small_cO hn8 hn200 hO1
              have hBO := B7
              have q1 := fun kz => count_any g n (cO (upd O k 1)) bx _ (hBO.t.drewN kz) hS9
              have q2 := fun kz => rcount_any p h n (cO (upd O k 1)) bx _ (hBO.r.drewN kz) hS9
              have q3 := fun kz => used_any g n (cO (upd O k 1)) _ (hBO.t.drewN kz) hS9
              have q4 := fun kz => rused_any p h n (cO (upd O k 1)) _ (hBO.r.drewN kz) hS9
              have q5 := fun kz => free_any g n (cO (upd O k 1)) _ (hBO.t.drewN kz) hS9
              have q6 := fun kz => rfree_any p h n (cO (upd O k 1)) _ (hBO.r.drewN kz) hS9
              have q7 := fun kz => blocks_any g n (cO (upd O k 1)) _ (hBO.t.drewN kz)
              have q8 := fun kz => rblocks_any p h n (cO (upd O k 1)) _ (hBO.r.drewN kz)
              have hk1 := k7
              have hBE := E7
              generalize usedTo (cO (upd O k 1)) 240 = uu at *
              generalize cntV n (cO (upd O k 1)) bx = cv at *
              go_wp2_with (fail)
              go_quiet ((first | (go_at_call 19; exact Calls.quiet_of_same ((q1 _).mono fun _ _ h => ⟨h.1, h.2.symm⟩)) | (go_at_call 20; exact Calls.quiet_of_same ((q2 _).mono fun _ _ h => ⟨h.1, h.2.symm⟩)) | (go_at_call 21; exact Calls.quiet_of_same ((q3 _).mono fun _ _ h => ⟨h.1, h.2.symm⟩)) | (go_at_call 22; exact Calls.quiet_of_same ((q4 _).mono fun _ _ h => ⟨h.1, h.2.symm⟩)) | (go_at_call 23; exact ((q5 _).mono fun _ _ h => ⟨h.1, h.2.imp' (fun k => _ + k) fun k e => e.trans (drewN_add _ _ _)⟩)) | (go_at_call 24; exact ((q6 _).mono fun _ _ h => ⟨h.1, h.2.imp' (fun k => _ + k) fun k e => e.trans (drewN_add _ _ _)⟩)) | (go_at_call 25; exact Calls.quiet_of_same ((q7 _).mono fun _ _ h => ⟨h.1, h.2.symm⟩)) | (go_at_call 26; exact Calls.quiet_of_same ((q8 _).mono fun _ _ h => ⟨h.1, h.2.symm⟩))))
              go_wp2_with (fail)
              go_roundw
              case rel => exact ⟨j + 1, g, upd O k 1, by omega, rfl, by go_num, hO1, hgw, hBE.trans ⟨rfl, rfl, rfl, Nat.le_refl _, fun _ _ => rfl⟩, hBO.heap (fun _ _ => rfl) (Nat.le_refl _)⟩
              case measure => simp [intOf]; omega
            · have cA := alloc_none g n _ _ B0.t hS hno
              have cR := ralloc_none p h n _ _ B0.r hS hno
              clear hno
              go_wp2_with (fail)
              refine cA.mono ?_
              rintro e w' ⟨rfl, rfl⟩
              go_wp2_with (fail)
              refine cR.mono ?_
              rintro e w' ⟨rfl, rfl⟩
              clear cA cR
              have hS9 := small_cO hn8 hn200 hO
              have hBO := B0
              have q1 := fun kz => count_any g n (cO (O)) bx _ (hBO.t.drewN kz) hS9
              have q2 := fun kz => rcount_any p h n (cO (O)) bx _ (hBO.r.drewN kz) hS9
              have q3 := fun kz => used_any g n (cO (O)) _ (hBO.t.drewN kz) hS9
              have q4 := fun kz => rused_any p h n (cO (O)) _ (hBO.r.drewN kz) hS9
              have q5 := fun kz => free_any g n (cO (O)) _ (hBO.t.drewN kz) hS9
              have q6 := fun kz => rfree_any p h n (cO (O)) _ (hBO.r.drewN kz) hS9
              have q7 := fun kz => blocks_any g n (cO (O)) _ (hBO.t.drewN kz)
              have q8 := fun kz => rblocks_any p h n (cO (O)) _ (hBO.r.drewN kz)
              have hk1 := k1
              have hBE := E0
              generalize usedTo (cO (O)) 240 = uu at *
              generalize cntV n (cO (O)) bx = cv at *
              go_wp2_with (fail)
              go_quiet ((first | (go_at_call 19; exact Calls.quiet_of_same ((q1 _).mono fun _ _ h => ⟨h.1, h.2.symm⟩)) | (go_at_call 20; exact Calls.quiet_of_same ((q2 _).mono fun _ _ h => ⟨h.1, h.2.symm⟩)) | (go_at_call 21; exact Calls.quiet_of_same ((q3 _).mono fun _ _ h => ⟨h.1, h.2.symm⟩)) | (go_at_call 22; exact Calls.quiet_of_same ((q4 _).mono fun _ _ h => ⟨h.1, h.2.symm⟩)) | (go_at_call 23; exact ((q5 _).mono fun _ _ h => ⟨h.1, h.2.imp' (fun k => _ + k) fun k e => e.trans (drewN_add _ _ _)⟩)) | (go_at_call 24; exact ((q6 _).mono fun _ _ h => ⟨h.1, h.2.imp' (fun k => _ + k) fun k e => e.trans (drewN_add _ _ _)⟩)) | (go_at_call 25; exact Calls.quiet_of_same ((q7 _).mono fun _ _ h => ⟨h.1, h.2.symm⟩)) | (go_at_call 26; exact Calls.quiet_of_same ((q8 _).mono fun _ _ h => ⟨h.1, h.2.symm⟩))))
              go_wp2_with (fail)
              go_roundw
              case rel => exact ⟨j + 1, g, O, by omega, rfl, by go_num, hO, hgw, hBE.trans ⟨rfl, rfl, rfl, Nat.le_refl _, fun _ _ => rfl⟩, hBO.heap (fun _ _ => rfl) (Nat.le_refl _)⟩
              case measure => simp [intOf]; omega
        · as_aux_lemma =>
            cases hcd : cntdB n (cO O) bx with
            | false =>
              have cA := fun k => inc_none g n _ bx _ (B0.t.drewN k) hS hcd
              have cR := fun k => rinc_none p h n _ bx _ (B0.r.drewN k) hS hcd
              clear hcd
              go_wp2_with (fail)
              go_quiet ((first | (go_at_call 14; exact Calls.quiet_of_same ((cA _).mono fun _ _ h => ⟨h.1, h.2.symm⟩)) | (go_at_call 15; exact Calls.quiet_of_same ((cR _).mono fun _ _ h => ⟨h.1, h.2.symm⟩))))
              have B1 := B0.heap (w' := W0.drewN nq) (fun _ _ => rfl) (Nat.le_refl _)
              have E1 : Below w.heap.size w (W0.drewN nq) := E0.trans ⟨rfl, rfl, rfl, Nat.le_refl _, fun _ _ => rfl⟩
              have kq : (W0.drewN nq).cell? ⟨xb, 1, none⟩ = some (.int .i64 bx) := k1
              clear cA cR
              generalize W0.drewN nq = W1 at *
              have hS9 := small_cO hn8 hn200 hO
              have hBO := B1
              have q1 := fun kz => count_any g n (cO (O)) bx _ (hBO.t.drewN kz) hS9
              have q2 := fun kz => rcount_any p h n (cO (O)) bx _ (hBO.r.drewN kz) hS9
              have q3 := fun kz => used_any g n (cO (O)) _ (hBO.t.drewN kz) hS9
              have q4 := fun kz => rused_any p h n (cO (O)) _ (hBO.r.drewN kz) hS9
              have q5 := fun kz => free_any g n (cO (O)) _ (hBO.t.drewN kz) hS9
              have q6 := fun kz => rfree_any p h n (cO (O)) _ (hBO.r.drewN kz) hS9
              have q7 := fun kz => blocks_any g n (cO (O)) _ (hBO.t.drewN kz)
              have q8 := fun kz => rblocks_any p h n (cO (O)) _ (hBO.r.drewN kz)
              have hk1 := kq
              have hBE := E1
              generalize usedTo (cO (O)) 240 = uu at *
              generalize cntV n (cO (O)) bx = cv at *
              go_wp2_with (fail)
              go_quiet ((first | (go_at_call 19; exact Calls.quiet_of_same ((q1 _).mono fun _ _ h => ⟨h.1, h.2.symm⟩)) | (go_at_call 20; exact Calls.quiet_of_same ((q2 _).mono fun _ _ h => ⟨h.1, h.2.symm⟩)) | (go_at_call 21; exact Calls.quiet_of_same ((q3 _).mono fun _ _ h => ⟨h.1, h.2.symm⟩)) | (go_at_call 22; exact Calls.quiet_of_same ((q4 _).mono fun _ _ h => ⟨h.1, h.2.symm⟩)) | (go_at_call 23; exact ((q5 _).mono fun _ _ h => ⟨h.1, h.2.imp' (fun k => _ + k) fun k e => e.trans (drewN_add _ _ _)⟩)) | (go_at_call 24; exact ((q6 _).mono fun _ _ h => ⟨h.1, h.2.imp' (fun k => _ + k) fun k e => e.trans (drewN_add _ _ _)⟩)) | (go_at_call 25; exact Calls.quiet_of_same ((q7 _).mono fun _ _ h => ⟨h.1, h.2.symm⟩)) | (go_at_call 26; exact Calls.quiet_of_same ((q8 _).mono fun _ _ h => ⟨h.1, h.2.symm⟩))))
              go_wp2_with (fail)
              go_roundw
              case rel => exact ⟨j + 1, g, O, by omega, rfl, by go_num, hO, hgw, hBE.trans ⟨rfl, rfl, rfl, Nat.le_refl _, fun _ _ => rfl⟩, hBO.heap (fun _ _ => rfl) (Nat.le_refl _)⟩
              case measure => simp [intOf]; omega
            | true =>
              obtain ⟨x, rfl, hx3, hxn, hx0⟩ := cntd_pos hcd
              have hob : cO O x = O x := by unfold cO; rw [if_neg (by omega)]
              by_cases h255 : O x = 255
              · have cA := fun k => inc_most g n _ x _ (B0.t.drewN k) hS hx3 hxn (by rw [hob]; exact h255)
                have cR := fun k => rinc_most p h n _ x _ (B0.r.drewN k) hS hx3 hxn (by rw [hob]; exact h255)
                clear hcd hob hx0 h255
                obtain ⟨bx, hbx⟩ : ∃ b : Int, (x : Int) = b := ⟨_, rfl⟩
                rw [hbx] at k1 cA cR
                try rw [hbx]
                go_wp2_with (fail)
                go_quiet ((first | (go_at_call 14; exact Calls.quiet_of_same ((cA _).mono fun _ _ h => ⟨h.1, h.2.symm⟩)) | (go_at_call 15; exact Calls.quiet_of_same ((cR _).mono fun _ _ h => ⟨h.1, h.2.symm⟩))))
                have B1 := B0.heap (w' := W0.drewN nq) (fun _ _ => rfl) (Nat.le_refl _)
                have E1 : Below w.heap.size w (W0.drewN nq) := E0.trans ⟨rfl, rfl, rfl, Nat.le_refl _, fun _ _ => rfl⟩
                have kq : (W0.drewN nq).cell? ⟨xb, 1, none⟩ = some (.int .i64 bx) := k1
                clear cA cR
                generalize W0.drewN nq = W1 at *
                have hS9 := small_cO hn8 hn200 hO
                have hBO := B1
                have q1 := fun kz => count_any g n (cO (O)) bx _ (hBO.t.drewN kz) hS9
                have q2 := fun kz => rcount_any p h n (cO (O)) bx _ (hBO.r.drewN kz) hS9
                have q3 := fun kz => used_any g n (cO (O)) _ (hBO.t.drewN kz) hS9
                have q4 := fun kz => rused_any p h n (cO (O)) _ (hBO.r.drewN kz) hS9
                have q5 := fun kz => free_any g n (cO (O)) _ (hBO.t.drewN kz) hS9
                have q6 := fun kz => rfree_any p h n (cO (O)) _ (hBO.r.drewN kz) hS9
                have q7 := fun kz => blocks_any g n (cO (O)) _ (hBO.t.drewN kz)
                have q8 := fun kz => rblocks_any p h n (cO (O)) _ (hBO.r.drewN kz)
                have hk1 := kq
                have hBE := E1
                generalize usedTo (cO (O)) 240 = uu at *
                generalize cntV n (cO (O)) bx = cv at *
                go_wp2_with (fail)
                go_quiet ((first | (go_at_call 19; exact Calls.quiet_of_same ((q1 _).mono fun _ _ h => ⟨h.1, h.2.symm⟩)) | (go_at_call 20; exact Calls.quiet_of_same ((q2 _).mono fun _ _ h => ⟨h.1, h.2.symm⟩)) | (go_at_call 21; exact Calls.quiet_of_same ((q3 _).mono fun _ _ h => ⟨h.1, h.2.symm⟩)) | (go_at_call 22; exact Calls.quiet_of_same ((q4 _).mono fun _ _ h => ⟨h.1, h.2.symm⟩)) | (go_at_call 23; exact ((q5 _).mono fun _ _ h => ⟨h.1, h.2.imp' (fun k => _ + k) fun k e => e.trans (drewN_add _ _ _)⟩)) | (go_at_call 24; exact ((q6 _).mono fun _ _ h => ⟨h.1, h.2.imp' (fun k => _ + k) fun k e => e.trans (drewN_add _ _ _)⟩)) | (go_at_call 25; exact Calls.quiet_of_same ((q7 _).mono fun _ _ h => ⟨h.1, h.2.symm⟩)) | (go_at_call 26; exact Calls.quiet_of_same ((q8 _).mono fun _ _ h => ⟨h.1, h.2.symm⟩))))
                go_wp2_with (fail)
                go_roundw
                case rel => exact ⟨j + 1, g, O, by omega, rfl, by go_num, hO, hgw, hBE.trans ⟨rfl, rfl, rfl, Nat.le_refl _, fun _ _ => rfl⟩, hBO.heap (fun _ _ => rfl) (Nat.le_refl _)⟩
                case measure => simp [intOf]; omega
              · have cA := fun W t => inc_good g n _ x W t hS hx3 hxn hx0 (by rw [hob]; have := hO.c x; omega)
                have cR := fun W t => rinc_good p h n _ x W t hS hx3 hxn hx0 (by rw [hob]; have := hO.c x; omega)
                rw [hob, cO_upd hx3] at cA cR
                have hO1 := okO_upd hO hx3 hxn (v := O x + 1) (by have := hO.c x; omega)
                obtain ⟨P, hP⟩ : ∃ P, upd O x (O x + 1) = P := ⟨_, rfl⟩
                rw [hP] at cA cR hO1
                clear hcd hob hx0 h255 hP
                obtain ⟨bx, hbx⟩ : ∃ b : Int, (x : Int) = b := ⟨_, rfl⟩
                rw [hbx] at cA cR k1
                try rw [hbx]
                have BD := B0.heap (w' := W0.drew) (fun _ _ => rfl) (Nat.le_refl _)
                have ED : Below w.heap.size w W0.drew := E0.trans ⟨rfl, rfl, rfl, Nat.le_refl _, fun _ _ => rfl⟩
                have kd : W0.drew.cell? ⟨xb, 1, none⟩ = some (.int .i64 bx) := k1
                have hxd : xb < W0.drew.heap.size := hxl
                go_wp2_with (fail)
                go_region_held3 (fun W => W.cell? ⟨xb, 1, none⟩ = some (.int .i64 bx)) (first | exact k7 | exact k8 | exact kd | exact k1 | go_keep) (first
                  | (go_at_call 14; refine (cA _ (by first | exact T8 | exact BD.t)).mono ?_; rintro e w7 ⟨rfl, t7⟩; have z7 := t7.sz; (first | (have R7 := t8.t.heap (t7.oth p t8.t.pl (Ne.symm BD.gp)) (t7.oth h t8.t.hl (Ne.symm BD.gh)) t7.sz; have k7 := (cell_of_blk (t7.oth xb (Nat.lt_of_lt_of_le hxd z8) hxg) 1).trans k8; have E7 := E8.trans (t7.keep _ hgw E8.size)) | (have R7 := BD.r.heap (t7.oth p BD.r.pl (Ne.symm BD.gp)) (t7.oth h BD.r.hl (Ne.symm BD.gh)) t7.sz; have k7 := (cell_of_blk (t7.oth xb hxd hxg) 1).trans kd; have E7 := ED.trans (t7.keep _ hgw ED.size))))
                  | (go_at_call 15; refine (cR _ (by first | exact R7 | exact BD.r)).mono ?_; rintro e w8 ⟨rfl, t8⟩; have z8 := t8.sz; (first | (have T8 := t7.t.heap (t8.oth g t7.t.lt BD.gh); have k8 := (cell_of_blk (t8.oth xb (Nat.lt_of_lt_of_le hxd z7) hxh) 1).trans k7; have E8 := E7.trans (t8.keep _ hhw E7.size)) | (have T8 := BD.t.heap (t8.oth g BD.t.lt BD.gh); have k8 := (cell_of_blk (t8.oth xb hxd hxh) 1).trans kd; have E8 := ED.trans (t8.keep _ hhw ED.size)))))
                all_goals
                  first
                    | (have BF : Both w8 g p h n (cO P) := ⟨T8, t8.t, BD.gp, BD.gh⟩; have E9 := E8; have k9 := k8)
                    | (have BF : Both w7 g p h n (cO P) := ⟨t7.t, R7, BD.gp, BD.gh⟩; have E9 := E7; have k9 := k7)
                  clear t7 t8 R7 T8 k7 k8 E7 E8 z7 z8 cA cR kd
                  have hS9 := small_cO hn8 hn200 hO1
                  have hBO := BF
                  have q1 := fun kz => count_any g n (cO (P)) bx _ (hBO.t.drewN kz) hS9
                  have q2 := fun kz => rcount_any p h n (cO (P)) bx _ (hBO.r.drewN kz) hS9
                  have q3 := fun kz => used_any g n (cO (P)) _ (hBO.t.drewN kz) hS9
                  have q4 := fun kz => rused_any p h n (cO (P)) _ (hBO.r.drewN kz) hS9
                  have q5 := fun kz => free_any g n (cO (P)) _ (hBO.t.drewN kz) hS9
                  have q6 := fun kz => rfree_any p h n (cO (P)) _ (hBO.r.drewN kz) hS9
                  have q7 := fun kz => blocks_any g n (cO (P)) _ (hBO.t.drewN kz)
                  have q8 := fun kz => rblocks_any p h n (cO (P)) _ (hBO.r.drewN kz)
                  have hk1 := k9
                  have hBE := E9
                  generalize usedTo (cO (P)) 240 = uu at *
                  generalize cntV n (cO (P)) bx = cv at *
                  go_wp2_with (fail)
                  go_quiet ((first | (go_at_call 19; exact Calls.quiet_of_same ((q1 _).mono fun _ _ h => ⟨h.1, h.2.symm⟩)) | (go_at_call 20; exact Calls.quiet_of_same ((q2 _).mono fun _ _ h => ⟨h.1, h.2.symm⟩)) | (go_at_call 21; exact Calls.quiet_of_same ((q3 _).mono fun _ _ h => ⟨h.1, h.2.symm⟩)) | (go_at_call 22; exact Calls.quiet_of_same ((q4 _).mono fun _ _ h => ⟨h.1, h.2.symm⟩)) | (go_at_call 23; exact ((q5 _).mono fun _ _ h => ⟨h.1, h.2.imp' (fun k => _ + k) fun k e => e.trans (drewN_add _ _ _)⟩)) | (go_at_call 24; exact ((q6 _).mono fun _ _ h => ⟨h.1, h.2.imp' (fun k => _ + k) fun k e => e.trans (drewN_add _ _ _)⟩)) | (go_at_call 25; exact Calls.quiet_of_same ((q7 _).mono fun _ _ h => ⟨h.1, h.2.symm⟩)) | (go_at_call 26; exact Calls.quiet_of_same ((q8 _).mono fun _ _ h => ⟨h.1, h.2.symm⟩))))
                  go_wp2_with (fail)
                  go_roundw
                  case rel => exact ⟨j + 1, g, P, by omega, rfl, by go_num, hO1, hgw, hBE.trans ⟨rfl, rfl, rfl, Nat.le_refl _, fun _ _ => rfl⟩, hBO.heap (fun _ _ => rfl) (Nat.le_refl _)⟩
                  case measure => simp [intOf]; omega
        · as_aux_lemma =>
            cases hcd : cntdB n (cO O) bx with
            | false =>
              have cA := dec_none g n _ bx _ B0.t hS hcd
              have cR := rdec_none p h n _ bx _ B0.r hS hcd
              clear hcd
              go_wp2_with (fail)
              refine cA.mono ?_
              rintro e w' ⟨rfl, rfl⟩
              go_wp2_with (fail)
              refine cR.mono ?_
              rintro e w' ⟨rfl, rfl⟩
              clear cA cR
              have hS9 := small_cO hn8 hn200 hO
              have hBO := B0
              have q1 := fun kz => count_any g n (cO (O)) bx _ (hBO.t.drewN kz) hS9
              have q2 := fun kz => rcount_any p h n (cO (O)) bx _ (hBO.r.drewN kz) hS9
              have q3 := fun kz => used_any g n (cO (O)) _ (hBO.t.drewN kz) hS9
              have q4 := fun kz => rused_any p h n (cO (O)) _ (hBO.r.drewN kz) hS9
              have q5 := fun kz => free_any g n (cO (O)) _ (hBO.t.drewN kz) hS9
              have q6 := fun kz => rfree_any p h n (cO (O)) _ (hBO.r.drewN kz) hS9
              have q7 := fun kz => blocks_any g n (cO (O)) _ (hBO.t.drewN kz)
              have q8 := fun kz => rblocks_any p h n (cO (O)) _ (hBO.r.drewN kz)
              have hk1 := k1
              have hBE := E0
              generalize usedTo (cO (O)) 240 = uu at *
              generalize cntV n (cO (O)) bx = cv at *
              go_wp2_with (fail)
              go_quiet ((first | (go_at_call 19; exact Calls.quiet_of_same ((q1 _).mono fun _ _ h => ⟨h.1, h.2.symm⟩)) | (go_at_call 20; exact Calls.quiet_of_same ((q2 _).mono fun _ _ h => ⟨h.1, h.2.symm⟩)) | (go_at_call 21; exact Calls.quiet_of_same ((q3 _).mono fun _ _ h => ⟨h.1, h.2.symm⟩)) | (go_at_call 22; exact Calls.quiet_of_same ((q4 _).mono fun _ _ h => ⟨h.1, h.2.symm⟩)) | (go_at_call 23; exact ((q5 _).mono fun _ _ h => ⟨h.1, h.2.imp' (fun k => _ + k) fun k e => e.trans (drewN_add _ _ _)⟩)) | (go_at_call 24; exact ((q6 _).mono fun _ _ h => ⟨h.1, h.2.imp' (fun k => _ + k) fun k e => e.trans (drewN_add _ _ _)⟩)) | (go_at_call 25; exact Calls.quiet_of_same ((q7 _).mono fun _ _ h => ⟨h.1, h.2.symm⟩)) | (go_at_call 26; exact Calls.quiet_of_same ((q8 _).mono fun _ _ h => ⟨h.1, h.2.symm⟩))))
              go_wp2_with (fail)
              go_roundw
              case rel => exact ⟨j + 1, g, O, by omega, rfl, by go_num, hO, hgw, hBE.trans ⟨rfl, rfl, rfl, Nat.le_refl _, fun _ _ => rfl⟩, hBO.heap (fun _ _ => rfl) (Nat.le_refl _)⟩
              case measure => simp [intOf]; omega
            | true =>
              obtain ⟨x, rfl, hx3, hxn, hx0⟩ := cntd_pos hcd
              have hob : cO O x = O x := by unfold cO; rw [if_neg (by omega)]
              have cA := fun W t => dec_good g n _ x W t hS hx3 hxn hx0
              have cR := fun W t => rdec_good p h n _ x W t hS hx3 hxn hx0
              rw [hob, cO_upd hx3] at cA cR
              have hO1 := okO_upd hO hx3 hxn (v := O x - 1) (by have := hO.c x; omega)
              obtain ⟨P, hP⟩ : ∃ P, upd O x (O x - 1) = P := ⟨_, rfl⟩
              rw [hP] at cA cR hO1
              obtain ⟨ov, hov⟩ : ∃ v, O x - 1 = v := ⟨_, rfl⟩
              rw [hov] at cA cR
              clear hcd hob hx0 hP hov
              obtain ⟨bx, hbx⟩ : ∃ b : Int, (x : Int) = b := ⟨_, rfl⟩
              rw [hbx] at cA cR k1
              try rw [hbx]
              go_wp2_with (fail)
              refine (cA _ B0.t).mono ?_
              rintro e w6 ⟨rfl, t6⟩
              obtain ⟨T6, R6⟩ := B0.tab t6
              have k6 : w6.cell? ⟨xb, 1, none⟩ = some (.int .i64 bx) := by rw [cell_of_blk (t6.oth xb hxl hxg) 1]; exact k1
              go_wp2_with (fail)
              refine (cR _ R6).mono ?_
              rintro e w7 ⟨rfl, t7⟩
              have E7 : Below w.heap.size w w7 := (E0.trans (t6.keep _ hgw E0.size)).trans (t7.keep _ hhw (Nat.le_trans E0.size t6.sz))
              have B7 : Both w7 g p h n (cO P) := ⟨T6.heap (t7.oth g T6.lt B0.gh), t7.t, B0.gp, B0.gh⟩
              have k7 : w7.cell? ⟨xb, 1, none⟩ = some (.int .i64 bx) := by
                rw [cell_of_blk (t7.oth xb (Nat.lt_of_lt_of_le hxl t6.sz) hxh) 1]; exact k6
              clear t6 T6 R6 t7 cA cR k6
              have hS9 := small_cO hn8 hn200 hO1
              have hBO := B7
              have q1 := fun kz => count_any g n (cO (P)) bx _ (hBO.t.drewN kz) hS9
              have q2 := fun kz => rcount_any p h n (cO (P)) bx _ (hBO.r.drewN kz) hS9
              have q3 := fun kz => used_any g n (cO (P)) _ (hBO.t.drewN kz) hS9
              have q4 := fun kz => rused_any p h n (cO (P)) _ (hBO.r.drewN kz) hS9
              have q5 := fun kz => free_any g n (cO (P)) _ (hBO.t.drewN kz) hS9
              have q6 := fun kz => rfree_any p h n (cO (P)) _ (hBO.r.drewN kz) hS9
              have q7 := fun kz => blocks_any g n (cO (P)) _ (hBO.t.drewN kz)
              have q8 := fun kz => rblocks_any p h n (cO (P)) _ (hBO.r.drewN kz)
              have hk1 := k7
              have hBE := E7
              generalize usedTo (cO (P)) 240 = uu at *
              generalize cntV n (cO (P)) bx = cv at *
              go_wp2_with (fail)
              go_quiet ((first | (go_at_call 19; exact Calls.quiet_of_same ((q1 _).mono fun _ _ h => ⟨h.1, h.2.symm⟩)) | (go_at_call 20; exact Calls.quiet_of_same ((q2 _).mono fun _ _ h => ⟨h.1, h.2.symm⟩)) | (go_at_call 21; exact Calls.quiet_of_same ((q3 _).mono fun _ _ h => ⟨h.1, h.2.symm⟩)) | (go_at_call 22; exact Calls.quiet_of_same ((q4 _).mono fun _ _ h => ⟨h.1, h.2.symm⟩)) | (go_at_call 23; exact ((q5 _).mono fun _ _ h => ⟨h.1, h.2.imp' (fun k => _ + k) fun k e => e.trans (drewN_add _ _ _)⟩)) | (go_at_call 24; exact ((q6 _).mono fun _ _ h => ⟨h.1, h.2.imp' (fun k => _ + k) fun k e => e.trans (drewN_add _ _ _)⟩)) | (go_at_call 25; exact Calls.quiet_of_same ((q7 _).mono fun _ _ h => ⟨h.1, h.2.symm⟩)) | (go_at_call 26; exact Calls.quiet_of_same ((q8 _).mono fun _ _ h => ⟨h.1, h.2.symm⟩))))
              go_wp2_with (fail)
              go_roundw
              case rel => exact ⟨j + 1, g, P, by omega, rfl, by go_num, hO1, hgw, hBE.trans ⟨rfl, rfl, rfl, Nat.le_refl _, fun _ _ => rfl⟩, hBO.heap (fun _ _ => rfl) (Nat.le_refl _)⟩
              case measure => simp [intOf]; omega
        · as_aux_lemma =>
            cases hcd : cntdB n (cO O) bx with
            | false =>
              have cA := dec_none g n _ bx _ B0.t hS hcd
              have cR := rdec_none p h n _ bx _ B0.r hS hcd
              clear hcd
              go_wp2_with (fail)
              refine cA.mono ?_
              rintro e w' ⟨rfl, rfl⟩
              go_wp2_with (fail)
              refine cR.mono ?_
              rintro e w' ⟨rfl, rfl⟩
              clear cA cR
              have hS9 := small_cO hn8 hn200 hO
              have hBO := B0
              have q1 := fun kz => count_any g n (cO (O)) bx _ (hBO.t.drewN kz) hS9
              have q2 := fun kz => rcount_any p h n (cO (O)) bx _ (hBO.r.drewN kz) hS9
              have q3 := fun kz => used_any g n (cO (O)) _ (hBO.t.drewN kz) hS9
              have q4 := fun kz => rused_any p h n (cO (O)) _ (hBO.r.drewN kz) hS9
              have q5 := fun kz => free_any g n (cO (O)) _ (hBO.t.drewN kz) hS9
              have q6 := fun kz => rfree_any p h n (cO (O)) _ (hBO.r.drewN kz) hS9
              have q7 := fun kz => blocks_any g n (cO (O)) _ (hBO.t.drewN kz)
              have q8 := fun kz => rblocks_any p h n (cO (O)) _ (hBO.r.drewN kz)
              have hk1 := k1
              have hBE := E0
              generalize usedTo (cO (O)) 240 = uu at *
              generalize cntV n (cO (O)) bx = cv at *
              go_wp2_with (fail)
              go_quiet ((first | (go_at_call 19; exact Calls.quiet_of_same ((q1 _).mono fun _ _ h => ⟨h.1, h.2.symm⟩)) | (go_at_call 20; exact Calls.quiet_of_same ((q2 _).mono fun _ _ h => ⟨h.1, h.2.symm⟩)) | (go_at_call 21; exact Calls.quiet_of_same ((q3 _).mono fun _ _ h => ⟨h.1, h.2.symm⟩)) | (go_at_call 22; exact Calls.quiet_of_same ((q4 _).mono fun _ _ h => ⟨h.1, h.2.symm⟩)) | (go_at_call 23; exact ((q5 _).mono fun _ _ h => ⟨h.1, h.2.imp' (fun k => _ + k) fun k e => e.trans (drewN_add _ _ _)⟩)) | (go_at_call 24; exact ((q6 _).mono fun _ _ h => ⟨h.1, h.2.imp' (fun k => _ + k) fun k e => e.trans (drewN_add _ _ _)⟩)) | (go_at_call 25; exact Calls.quiet_of_same ((q7 _).mono fun _ _ h => ⟨h.1, h.2.symm⟩)) | (go_at_call 26; exact Calls.quiet_of_same ((q8 _).mono fun _ _ h => ⟨h.1, h.2.symm⟩))))
              go_wp2_with (fail)
              go_roundw
              case rel => exact ⟨j + 1, g, O, by omega, rfl, by go_num, hO, hgw, hBE.trans ⟨rfl, rfl, rfl, Nat.le_refl _, fun _ _ => rfl⟩, hBO.heap (fun _ _ => rfl) (Nat.le_refl _)⟩
              case measure => simp [intOf]; omega
            | true =>
              obtain ⟨x, rfl, hx3, hxn, hx0⟩ := cntd_pos hcd
              have hob : cO O x = O x := by unfold cO; rw [if_neg (by omega)]
              have cA := fun W t => dec_good g n _ x W t hS hx3 hxn hx0
              have cR := fun W t => rdec_good p h n _ x W t hS hx3 hxn hx0
              rw [hob, cO_upd hx3] at cA cR
              have hO1 := okO_upd hO hx3 hxn (v := O x - 1) (by have := hO.c x; omega)
              obtain ⟨P, hP⟩ : ∃ P, upd O x (O x - 1) = P := ⟨_, rfl⟩
              rw [hP] at cA cR hO1
              obtain ⟨ov, hov⟩ : ∃ v, O x - 1 = v := ⟨_, rfl⟩
              rw [hov] at cA cR
              clear hcd hob hx0 hP hov
              obtain ⟨bx, hbx⟩ : ∃ b : Int, (x : Int) = b := ⟨_, rfl⟩
              rw [hbx] at cA cR k1
              try rw [hbx]
              go_wp2_with (fail)
              refine (cA _ B0.t).mono ?_
              rintro e w6 ⟨rfl, t6⟩
              obtain ⟨T6, R6⟩ := B0.tab t6
              have k6 : w6.cell? ⟨xb, 1, none⟩ = some (.int .i64 bx) := by rw [cell_of_blk (t6.oth xb hxl hxg) 1]; exact k1
              go_wp2_with (fail)
              refine (cR _ R6).mono ?_
              rintro e w7 ⟨rfl, t7⟩
              have E7 : Below w.heap.size w w7 := (E0.trans (t6.keep _ hgw E0.size)).trans (t7.keep _ hhw (Nat.le_trans E0.size t6.sz))
              have B7 : Both w7 g p h n (cO P) := ⟨T6.heap (t7.oth g T6.lt B0.gh), t7.t, B0.gp, B0.gh⟩
              have k7 : w7.cell? ⟨xb, 1, none⟩ = some (.int .i64 bx) := by
                rw [cell_of_blk (t7.oth xb (Nat.lt_of_lt_of_le hxl t6.sz) hxh) 1]; exact k6
              clear t6 T6 R6 t7 cA cR k6
              have hS9 := small_cO hn8 hn200 hO1
              have hBO := B7
              have q1 := fun kz => count_any g n (cO (P)) bx _ (hBO.t.drewN kz) hS9
              have q2 := fun kz => rcount_any p h n (cO (P)) bx _ (hBO.r.drewN kz) hS9
              have q3 := fun kz => used_any g n (cO (P)) _ (hBO.t.drewN kz) hS9
              have q4 := fun kz => rused_any p h n (cO (P)) _ (hBO.r.drewN kz) hS9
              have q5 := fun kz => free_any g n (cO (P)) _ (hBO.t.drewN kz) hS9
              have q6 := fun kz => rfree_any p h n (cO (P)) _ (hBO.r.drewN kz) hS9
              have q7 := fun kz => blocks_any g n (cO (P)) _ (hBO.t.drewN kz)
              have q8 := fun kz => rblocks_any p h n (cO (P)) _ (hBO.r.drewN kz)
              have hk1 := k7
              have hBE := E7
              generalize usedTo (cO (P)) 240 = uu at *
              generalize cntV n (cO (P)) bx = cv at *
              go_wp2_with (fail)
              go_quiet ((first | (go_at_call 19; exact Calls.quiet_of_same ((q1 _).mono fun _ _ h => ⟨h.1, h.2.symm⟩)) | (go_at_call 20; exact Calls.quiet_of_same ((q2 _).mono fun _ _ h => ⟨h.1, h.2.symm⟩)) | (go_at_call 21; exact Calls.quiet_of_same ((q3 _).mono fun _ _ h => ⟨h.1, h.2.symm⟩)) | (go_at_call 22; exact Calls.quiet_of_same ((q4 _).mono fun _ _ h => ⟨h.1, h.2.symm⟩)) | (go_at_call 23; exact ((q5 _).mono fun _ _ h => ⟨h.1, h.2.imp' (fun k => _ + k) fun k e => e.trans (drewN_add _ _ _)⟩)) | (go_at_call 24; exact ((q6 _).mono fun _ _ h => ⟨h.1, h.2.imp' (fun k => _ + k) fun k e => e.trans (drewN_add _ _ _)⟩)) | (go_at_call 25; exact Calls.quiet_of_same ((q7 _).mono fun _ _ h => ⟨h.1, h.2.symm⟩)) | (go_at_call 26; exact Calls.quiet_of_same ((q8 _).mono fun _ _ h => ⟨h.1, h.2.symm⟩))))
              go_wp2_with (fail)
              go_roundw
              case rel => exact ⟨j + 1, g, P, by omega, rfl, by go_num, hO1, hgw, hBE.trans ⟨rfl, rfl, rfl, Nat.le_refl _, fun _ _ => rfl⟩, hBO.heap (fun _ _ => rfl) (Nat.le_refl _)⟩
              case measure => simp [intOf]; omega
        · as_aux_lemma =>
            have cK := fun W t => clone_any g n (cO O) W t
            go_wp2_with (fail)
            refine (cK _ B0.t).mono ?_
            rintro e w6 ⟨rfl, b6, t6⟩
            have B6 := B0.below b6
            have E6 := E0.trans (b6.mono E0.size)
            have k6 : w6.cell? ⟨xb, 1, none⟩ = some (.int .i64 bx) := by rw [b6.cell (p := ⟨xb, 1, none⟩) hxl]; exact k1
            obtain ⟨g', hg'⟩ : ∃ g', W0.heap.size = g' := ⟨_, rfl⟩
            rw [hg'] at t6
            try rw [hg']
            have hgg : g < g' := by rw [← hg']; exact B0.t.lt
            have hpg : p < g' := by rw [← hg']; exact B0.r.pl
            have hhg : h < g' := by rw [← hg']; exact B0.r.hl
            have hxg' : xb < g' := by rw [← hg']; exact hxl
            have hxl6 : xb < w6.heap.size := Nat.lt_of_lt_of_le hxl b6.size
            have hgw' : w.heap.size ≤ g' := by omega
            clear hg' b6 cK
            rcases least_free n (cO O) with ⟨k, k1', k2, k3⟩ | hno
            · have cA := alloc_some g n _ _ B6.t hS k k1' k2 k3
              clear k2 k3
              go_wp2_with (fail)
              refine cA.mono ?_
              rintro e w7 ⟨rfl, t7⟩
              have E7 := E6.trans (t7.keep _ hgw E6.size)
              have B7 : Both w7 g' p h n (cO O) := ⟨t6.heap (t7.oth g' t6.lt (by omega)), B6.r.heap (t7.oth p B6.r.pl (Ne.symm B6.gp)) (t7.oth h B6.r.hl (Ne.symm B6.gh)) t7.sz, by omega, by omega⟩
              have k7 : w7.cell? ⟨xb, 1, none⟩ = some (.int .i64 bx) := by rw [cell_of_blk (t7.oth xb hxl6 hxg) 1]; exact k6
              clear t7 t6 cA B6 k6
              have hS9 := small_cO hn8 hn200 hO
              have hBO := B7
              have q1 := fun kz => count_any g' n (cO (O)) bx _ (hBO.t.drewN kz) hS9
              have q2 := fun kz => rcount_any p h n (cO (O)) bx _ (hBO.r.drewN kz) hS9
              have q3 := fun kz => used_any g' n (cO (O)) _ (hBO.t.drewN kz) hS9
              have q4 := fun kz => rused_any p h n (cO (O)) _ (hBO.r.drewN kz) hS9
              have q5 := fun kz => free_any g' n (cO (O)) _ (hBO.t.drewN kz) hS9
              have q6 := fun kz => rfree_any p h n (cO (O)) _ (hBO.r.drewN kz) hS9
              have q7 := fun kz => blocks_any g' n (cO (O)) _ (hBO.t.drewN kz)
              have q8 := fun kz => rblocks_any p h n (cO (O)) _ (hBO.r.drewN kz)
              have hk1 := k7
              have hBE := E7
              generalize usedTo (cO (O)) 240 = uu at *
              generalize cntV n (cO (O)) bx = cv at *
              go_wp2_with (fail)
              go_quiet ((first | (go_at_call 19; exact Calls.quiet_of_same ((q1 _).mono fun _ _ h => ⟨h.1, h.2.symm⟩)) | (go_at_call 20; exact Calls.quiet_of_same ((q2 _).mono fun _ _ h => ⟨h.1, h.2.symm⟩)) | (go_at_call 21; exact Calls.quiet_of_same ((q3 _).mono fun _ _ h => ⟨h.1, h.2.symm⟩)) | (go_at_call 22; exact Calls.quiet_of_same ((q4 _).mono fun _ _ h => ⟨h.1, h.2.symm⟩)) | (go_at_call 23; exact ((q5 _).mono fun _ _ h => ⟨h.1, h.2.imp' (fun k => _ + k) fun k e => e.trans (drewN_add _ _ _)⟩)) | (go_at_call 24; exact ((q6 _).mono fun _ _ h => ⟨h.1, h.2.imp' (fun k => _ + k) fun k e => e.trans (drewN_add _ _ _)⟩)) | (go_at_call 25; exact Calls.quiet_of_same ((q7 _).mono fun _ _ h => ⟨h.1, h.2.symm⟩)) | (go_at_call 26; exact Calls.quiet_of_same ((q8 _).mono fun _ _ h => ⟨h.1, h.2.symm⟩))))
              go_wp2_with (fail)
              go_roundw
              case rel => exact ⟨j + 1, g', O, by omega, rfl, by go_num, hO, hgw', hBE.trans ⟨rfl, rfl, rfl, Nat.le_refl _, fun _ _ => rfl⟩, hBO.heap (fun _ _ => rfl) (Nat.le_refl _)⟩
              case measure => simp [intOf]; omega
            · have cA := alloc_none g n _ _ B6.t hS hno
              clear hno
              go_wp2_with (fail)
              refine cA.mono ?_
              rintro e w' ⟨rfl, rfl⟩
              have B7 : Both w6 g' p h n (cO O) := ⟨t6, B6.r, by omega, by omega⟩
              clear t6 cA B6
              have hS9 := small_cO hn8 hn200 hO
              have hBO := B7
              have q1 := fun kz => count_any g' n (cO (O)) bx _ (hBO.t.drewN kz) hS9
              have q2 := fun kz => rcount_any p h n (cO (O)) bx _ (hBO.r.drewN kz) hS9
              have q3 := fun kz => used_any g' n (cO (O)) _ (hBO.t.drewN kz) hS9
              have q4 := fun kz => rused_any p h n (cO (O)) _ (hBO.r.drewN kz) hS9
              have q5 := fun kz => free_any g' n (cO (O)) _ (hBO.t.drewN kz) hS9
              have q6 := fun kz => rfree_any p h n (cO (O)) _ (hBO.r.drewN kz) hS9
              have q7 := fun kz => blocks_any g' n (cO (O)) _ (hBO.t.drewN kz)
              have q8 := fun kz => rblocks_any p h n (cO (O)) _ (hBO.r.drewN kz)
              have hk1 := k6
              have hBE := E6
              generalize usedTo (cO (O)) 240 = uu at *
              generalize cntV n (cO (O)) bx = cv at *
              go_wp2_with (fail)
              go_quiet ((first | (go_at_call 19; exact Calls.quiet_of_same ((q1 _).mono fun _ _ h => ⟨h.1, h.2.symm⟩)) | (go_at_call 20; exact Calls.quiet_of_same ((q2 _).mono fun _ _ h => ⟨h.1, h.2.symm⟩)) | (go_at_call 21; exact Calls.quiet_of_same ((q3 _).mono fun _ _ h => ⟨h.1, h.2.symm⟩)) | (go_at_call 22; exact Calls.quiet_of_same ((q4 _).mono fun _ _ h => ⟨h.1, h.2.symm⟩)) | (go_at_call 23; exact ((q5 _).mono fun _ _ h => ⟨h.1, h.2.imp' (fun k => _ + k) fun k e => e.trans (drewN_add _ _ _)⟩)) | (go_at_call 24; exact ((q6 _).mono fun _ _ h => ⟨h.1, h.2.imp' (fun k => _ + k) fun k e => e.trans (drewN_add _ _ _)⟩)) | (go_at_call 25; exact Calls.quiet_of_same ((q7 _).mono fun _ _ h => ⟨h.1, h.2.symm⟩)) | (go_at_call 26; exact Calls.quiet_of_same ((q8 _).mono fun _ _ h => ⟨h.1, h.2.symm⟩))))
              go_wp2_with (fail)
              go_roundw
              case rel => exact ⟨j + 1, g', O, by omega, rfl, by go_num, hO, hgw', hBE.trans ⟨rfl, rfl, rfl, Nat.le_refl _, fun _ _ => rfl⟩, hBO.heap (fun _ _ => rfl) (Nat.le_refl _)⟩
              case measure => simp [intOf]; omega
        · as_aux_lemma =>
            have hS9 := small_cO hn8 hn200 hO
            have hBO := B0
            have q1 := fun kz => count_any g n (cO (O)) bx _ (hBO.t.drewN kz) hS9
            have q2 := fun kz => rcount_any p h n (cO (O)) bx _ (hBO.r.drewN kz) hS9
            have q3 := fun kz => used_any g n (cO (O)) _ (hBO.t.drewN kz) hS9
            have q4 := fun kz => rused_any p h n (cO (O)) _ (hBO.r.drewN kz) hS9
            have q5 := fun kz => free_any g n (cO (O)) _ (hBO.t.drewN kz) hS9
            have q6 := fun kz => rfree_any p h n (cO (O)) _ (hBO.r.drewN kz) hS9
            have q7 := fun kz => blocks_any g n (cO (O)) _ (hBO.t.drewN kz)
            have q8 := fun kz => rblocks_any p h n (cO (O)) _ (hBO.r.drewN kz)
            have hk1 := k1
            have hBE := E0
            generalize usedTo (cO (O)) 240 = uu at *
            generalize cntV n (cO (O)) bx = cv at *
            go_wp2_with (fail)
            go_quiet ((first | (go_at_call 19; exact Calls.quiet_of_same ((q1 _).mono fun _ _ h => ⟨h.1, h.2.symm⟩)) | (go_at_call 20; exact Calls.quiet_of_same ((q2 _).mono fun _ _ h => ⟨h.1, h.2.symm⟩)) | (go_at_call 21; exact Calls.quiet_of_same ((q3 _).mono fun _ _ h => ⟨h.1, h.2.symm⟩)) | (go_at_call 22; exact Calls.quiet_of_same ((q4 _).mono fun _ _ h => ⟨h.1, h.2.symm⟩)) | (go_at_call 23; exact ((q5 _).mono fun _ _ h => ⟨h.1, h.2.imp' (fun k => _ + k) fun k e => e.trans (drewN_add _ _ _)⟩)) | (go_at_call 24; exact ((q6 _).mono fun _ _ h => ⟨h.1, h.2.imp' (fun k => _ + k) fun k e => e.trans (drewN_add _ _ _)⟩)) | (go_at_call 25; exact Calls.quiet_of_same ((q7 _).mono fun _ _ h => ⟨h.1, h.2.symm⟩)) | (go_at_call 26; exact Calls.quiet_of_same ((q8 _).mono fun _ _ h => ⟨h.1, h.2.symm⟩))))
            go_wp2_with (fail)
            go_roundw
            case rel => exact ⟨j + 1, g, O, by omega, rfl, by go_num, hO, hgw, hBE.trans ⟨rfl, rfl, rfl, Nat.le_refl _, fun _ _ => rfl⟩, hBO.heap (fun _ _ => rfl) (Nat.le_refl _)⟩
            case measure => simp [intOf]; omega
    · have hexit : (¬ j < l.length) ∨ (j < l.length ∧ ¬ j < 600) := by omega
      clear hc
      rcases hexit with hx | ⟨hx, hx2⟩
      · have y1 : decide (j < l.length) = false := by rw [decide_eq_false_iff_not]; exact hx
        go_wp2_with (fail)
        refine (lay_any _ _ _ _ hT.t hS).mono ?_
        rintro e wa ⟨rfl, ba, ra⟩
        have Ta := hT.below ba
        have Ea := hB.trans (ba.mono hBs)
        go_wp2_with (fail)
        refine (rlay_any _ _ _ _ _ Ta.r hS).mono ?_
        rintro e wb ⟨vb, rfl, bb, rb⟩
        have Eb := below_e Ea bb
        have sm := same_any _ _ [layS (cO O) 0, layS (cO O) 120] [layS (cO O) 0, layS (cO O) 120] wb (ra.below bb) rb (by simp) (by simp)
        rw [decide_eq_true rfl] at sm
        go_wp2_with (fail)
        refine sm.mono ?_
        rintro e wc ⟨rfl, bc, _⟩
        go_wp2_with (fail)
        go_ret
        exact ⟨rfl, below_e Eb bc⟩
      · have y1 : (j : Int) < (l.length : Int) := by omega
        have y2 : decide ((j : Int) < 600) = false := by rw [decide_eq_false_iff_not]; omega
        go_wp2_with (fail)
        refine (lay_any _ _ _ _ hT.t hS).mono ?_
        rintro e wa ⟨rfl, ba, ra⟩
        have Ta := hT.below ba
        have Ea := hB.trans (ba.mono hBs)
        go_wp2_with (fail)
        refine (rlay_any _ _ _ _ _ Ta.r hS).mono ?_
        rintro e wb ⟨vb, rfl, bb, rb⟩
        have Eb := below_e Ea bb
        have sm := same_any _ _ [layS (cO O) 0, layS (cO O) 120] [layS (cO O) 0, layS (cO O) 120] wb (ra.below bb) rb (by simp) (by simp)
        rw [decide_eq_true rfl] at sm
        go_wp2_with (fail)
        refine sm.mono ?_
        rintro e wc ⟨rfl, bc, _⟩
        go_wp2_with (fail)
        go_ret
        exact ⟨rfl, below_e Eb bc⟩
end Go.Proofs.Ytbfdjlibhinkiaa
