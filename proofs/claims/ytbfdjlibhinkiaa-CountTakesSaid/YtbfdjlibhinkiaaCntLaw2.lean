/- count's laws: nothing to which a pointer leads is handed out. -/
import Derived.Test.YtbfdjlibhinkiaaCntLaw1
namespace Go.Proofs.Ytbfdjlibhinkiaa
open Go.RowKit
set_option linter.unusedVariables false
set_option linter.unusedSimpArgs false

/-- An act of a script. -/
structure ActV where
  what : Int
  b : Int
  near : Bool
def In64 (a : Int) : Prop := -9223372036854775808 ≤ a ∧ a ≤ 9223372036854775807
/-- A script as it lies. -/
structure Acts (w : World) (a : Option Addr) (l : List ActV) : Prop where
  c : ∀ i (hi : i < l.length), ∃ cb co, a = some ⟨cb, co, none⟩ ∧ cb < w.heap.size ∧ w.cell? ⟨cb, co + i * 3, none⟩ = some (.int .i64 l[i].what) ∧ w.cell? ⟨cb, co + i * 3 + 1, none⟩ = some (.int .i64 l[i].b) ∧ w.cell? ⟨cb, co + i * 3 + 2, none⟩ = some (.bool l[i].near)
  r : ∀ i (hi : i < l.length), In64 l[i].what ∧ In64 l[i].b
/-- The counts, by what is owned. -/
def cO (O : Nat → Nat) : Nat → Nat := fun i => if i < 3 then 1 else O i
structure OkO (n : Nat) (O : Nat → Nat) : Prop where
  lo : ∀ i, i < 3 → O i = 0
  hi : ∀ i, n ≤ i → O i = 0
  c : ∀ i, O i ≤ 255
theorem small_cO {n : Nat} {O : Nat → Nat} (h1 : 8 ≤ n) (h2 : n ≤ 200) (h : OkO n O) : Small n (cO O) :=
  ⟨h1, h2, fun i => by unfold cO; split; omega; exact h.c i, fun i hi => by unfold cO; rw [if_neg (by omega)]; exact h.hi i hi⟩
theorem cO_upd {O : Nat → Nat} {b v : Nat} (h : 3 ≤ b) : upd (cO O) b v = cO (upd O b v) := by
  funext i; simp only [upd, cO]
  by_cases e : i = b
  · subst e; rw [if_pos rfl, if_neg (by omega), if_pos rfl]
  · rw [if_neg e, if_neg e]
theorem okO_upd {n : Nat} {O : Nat → Nat} (h : OkO n O) {b v : Nat} (h3 : 3 ≤ b) (hn : b < n) (hv : v ≤ 255) : OkO n (upd O b v) :=
  ⟨fun i hi => by unfold upd; rw [if_neg (by omega)]; exact h.lo i hi, fun i hi => by unfold upd; rw [if_neg (by omega)]; exact h.hi i hi, fun i => by unfold upd; split; exact hv; exact h.c i⟩
theorem okO_zero (n : Nat) : OkO n fun _ => 0 := ⟨fun _ _ => rfl, fun _ _ => rfl, fun _ => Nat.zero_le _⟩
theorem cO_zero : cO (fun _ => 0) = cnt0 := by funext i; rfl
def oRow (n : Nat) (O : Nat → Nat) : List Value := rowV n fun i => .int .i64 ((O i : Nat) : Int)
theorem oRow_set (n : Nat) (O : Nat → Nat) (b v : Nat) : (oRow n O).set b (.int .i64 (v : Int)) = oRow n (upd O b v) :=
  rowV_set n _ _ b _ (by show Value.int .i64 ((upd O b v b : Nat) : Int) = _; rw [upd, if_pos rfl]) (fun j hj => by show Value.int .i64 ((upd O b v j : Nat) : Int) = _; rw [upd, if_neg hj])
/-- The least free block, or none. -/
theorem least_free (n : Nat) (C : Nat → Nat) : (∃ k, k < n ∧ C k = 0 ∧ ∀ j, j < k → C j ≠ 0) ∨ (∀ j, j < n → C j ≠ 0) := by
  induction n with
  | zero => exact .inr fun j hj => by omega
  | succ n ih =>
    rcases ih with ⟨k, h1, h2, h3⟩ | h
    · exact .inl ⟨k, by omega, h2, h3⟩
    · by_cases e : C n = 0
      · exact .inl ⟨n, by omega, e, h⟩
      · exact .inr fun j hj => by
          rcases (by omega : j < n ∨ j = n) with h1 | rfl
          · exact h j h1
          · exact e
theorem used_all {n : Nat} {C : Nat → Nat} (h : ∀ j, j < n → C j ≠ 0) (hz : ∀ i, n ≤ i → C i = 0) : ∀ k, usedTo C k = min k n
  | 0 => by simp [usedTo]
  | k + 1 => by
    rw [used_succ, used_all h hz k]
    by_cases e : k < n
    · have := h k e; rw [if_pos (by omega)]; omega
    · rw [hz k (by omega), if_neg (by decide)]; omega
theorem TabTo.own {w w' : World} {g n B : Nat} {C : Nat → Nat} {E : TypeId} {u : Value} {ys : List Value} (h : TabTo w g n C w') (ho : Own w B E u ys) (hg : g < B) : Own w' B E u ys :=
  ho.kept (v := .slice (some ⟨g, 0, none⟩) 0 0) (fun k hk hne => h.oth k hk (fun e => hne (by rw [e]; rfl))) (fun k hk e => by have := (ho.o.lt k hk).1; simp [Value.ownBlock] at e; omega)
def vL (L : List Nat) : List Value := L.map fun x => .int .i64 ((x : Nat) : Int)
theorem vL_snoc (L : List Nat) (x : Nat) : vL (L ++ [x]) = vL L ++ [.int .i64 (x : Int)] := by simp [vL]
theorem upd_upd (O : Nat → Nat) (b x y : Nat) : upd (upd O b x) b y = upd O b y := by
  funext i; simp only [upd]; by_cases e : i = b
  · rw [if_pos e, if_pos e]
  · rw [if_neg e, if_neg e, if_neg e]
theorem upd_self (O : Nat → Nat) (b : Nat) : upd O b (O b) = O := by
  funext i; simp only [upd]; by_cases e : i = b
  · subst e; rw [if_pos rfl]
  · rw [if_neg e]
def cellN (w : World) (g b : Nat) : Nat := match w.cell? ⟨g, b, none⟩ with | some (.int _ n) => n.toNat | _ => 0
theorem free_used (u n : Nat) (h : u ≤ 240) (h2 : n ≤ 200) : wrap64 ((u : Int) + ((n : Int) - (u : Int))) = (n : Int) := by
  rw [IntWalk.wrap64_in _ ⟨by omega, by omega⟩]; omega
set_option maxRecDepth 100000 in
set_option maxHeartbeats 8000000 in
theorem once_walk (blocks : Int) (aa : Option Addr) (ca : Nat) (l : List ActV) (w : World) (rb : -9223372036854775808 ≤ blocks ∧ blocks ≤ 9223372036854775807) (hA : Acts w aa l) (ll : l.length ≤ 140737488355328) :
    Calls Try.prog 6 #[.int .i64 blocks, .slice aa l.length ca] w fun e w' => e = .returned (.bool true) ∧ Below w.heap.size w w' := by
  obtain ⟨ib, hi, hz0, hz1, hz2⟩ := info_parts Try.infoI
  have hpb := pk_rng blocks 193 (by decide)
  obtain ⟨q, hq⟩ := Int.eq_ofNat_of_zero_le hpb.1
  have hn8 : 8 ≤ 8 + q := by omega
  have hn200 : 8 + q ≤ 200 := by omega
  have p1 := fun W => pick_any blocks 193 W rb.1 rb.2 (by decide) (by decide)
  rw [hq] at p1
  have cN : ∀ W, Calls Try.prog 9 #[.int .i64 (8 + (q : Int))] W (MadeT W (8 + q) cnt0) := fun W => by
    have := new_good (8 + q) W hn8 hn200
    rwa [show ((8 + q : Nat) : Int) = 8 + (q : Int) by omega] at this
  have q192 : (q : Int) ≤ 192 := by omega
  clear hpb hq rb
  go_enter Try.func6, Try.ntmps6
  go_wp2_with (fail)
  refine (awake_any _).mono ?_
  rintro e w1 ⟨rfl, b1⟩
  have hs1 := b1.size
  go_wp2_with (fail)
  refine (p1 _).mono ?_
  rintro e w' ⟨rfl, rfl⟩
  go_wp2_with (fail)
  refine (cN _).mono ?_
  rintro e w2 ⟨rfl, b2, t2⟩
  have B2 := below_e b1 b2
  obtain ⟨g, hg⟩ : ∃ g, w1.heap.size = g := ⟨_, rfl⟩
  rw [hg] at t2
  try rw [hg]
  have hgw : w.heap.size ≤ g := by omega
  clear hg b1 b2 hs1 p1 cN
  have hB2s := B2.size
  obtain ⟨w4, hmk, o4, b4⟩ := Own.make_run (P := Try.prog) (T := 45) Try.underlying45 hi hz0 hz1 hz2 rfl w2 (8 + q) (by omega) (by omega)
  rw [rowV_rep] at o4
  rw [show ((8 + q : Nat) : Int) = 8 + (q : Int) by omega] at hmk
  obtain ⟨gb, hgb⟩ : ∃ gb, w2.heap.size = gb := ⟨_, rfl⟩
  have hgg : g < gb := by have := t2.lt; omega
  have T4 := t2.below b4 t2.lt
  have B4 := B2.trans (b4.mono hB2s)
  have hs4 : gb + 1 ≤ w4.heap.size := by have := o4.lt.2; omega
  rw [hgb] at o4 hmk
  rw [← cO_zero] at T4
  clear hgb b4 t2 B2 hB2s
  go_wp2_with (fail)
  clear hmk
  go_loopw [10, 11] (fun u t wr => ∃ (j : Nat) (O : Nat → Nat) (L : List Nat), j ≤ l.length ∧ j ≤ 400 ∧ t = .int .i64 (j : Int) ∧ L.length ≤ j ∧ OkO (8 + q) O ∧ (∀ x ∈ L, 3 ≤ x ∧ x < 8 + q) ∧ Below w.heap.size w wr ∧ gb + 1 ≤ wr.heap.size ∧ TabAt wr g (8 + q) (cO O) ∧ Own wr gb 3 (.slice (some ⟨gb, 0, none⟩) (8 + q) (8 + q)) (oRow (8 + q) O) ∧ Own wr (gb + 1) 3 u (vL L)) (fun _ t _ => l.length - (intOf t).toNat)
  case atStart => exact ⟨0, fun _ => 0, [], by omega, by omega, rfl, by simp, okO_zero _, (fun x hx => by cases hx), B4, hs4, T4, o4, Own.nil _ _ _⟩
  case round =>
    obtain ⟨j, O, L, hj, hj400, rfl, hLj, hO, hLx, hB, hs, hT, hR, hV⟩ := hrel
    obtain ⟨lv, rfl⟩ : ∃ v, v = u10 := ⟨_, rfl⟩
    rename World => wr
    have hS := small_cO hn8 hn200 hO
    have hBs := hB.size
    by_cases hc : j < l.length ∧ j < 400
    · obtain ⟨hjl, hj4⟩ := hc
      have y1 : (j : Int) < (l.length : Int) := by omega
      have y2 : (j : Int) < 400 := by omega
      obtain ⟨nb, no, rfl, hnb, n0, n1, n2⟩ := hA.c j hjl
      have hrj := hA.r j hjl
      have d0 : wr.cell? ⟨nb, no + j * 3, none⟩ = some (.int .i64 l[j].what) := by rw [hB.cell (p := ⟨nb, no + j * 3, none⟩) hnb]; exact n0
      have d1 : wr.cell? ⟨nb, no + j * 3 + 1, none⟩ = some (.int .i64 l[j].b) := by rw [hB.cell (p := ⟨nb, no + j * 3 + 1, none⟩) hnb]; exact n1
      have d2 : wr.cell? ⟨nb, no + j * 3 + 2, none⟩ = some (.bool l[j].near) := by rw [hB.cell (p := ⟨nb, no + j * 3 + 2, none⟩) hnb]; exact n2
      clear n0 n1 n2
      generalize l[j].what = wh at *
      generalize l[j].b = bb at *
      generalize l[j].near = nr at *
      have hbx : Below wr.heap.size wr (wr.alloc (.cells #[.int .i64 wh, .int .i64 bb, .bool nr] 32)) := (Below.refl _ _).alloc (Nat.le_refl _) _
      have T5 := hT.below hbx hT.lt
      have R5 := hR.after hbx
      have V5 := hV.after hbx
      have B5 := hB.trans (hbx.mono hBs)
      have s5 : gb + 1 ≤ (wr.alloc (.cells #[.int .i64 wh, .int .i64 bb, .bool nr] 32)).heap.size := Nat.le_trans hs hbx.size
      have k0 : (wr.alloc (.cells #[.int .i64 wh, .int .i64 bb, .bool nr] 32)).cell? ⟨wr.heap.size, 0, none⟩ = some (.int .i64 wh) := by simp
      have k1 : (wr.alloc (.cells #[.int .i64 wh, .int .i64 bb, .bool nr] 32)).cell? ⟨wr.heap.size, 1, none⟩ = some (.int .i64 bb) := by simp
      have hxs : wr.heap.size < (wr.alloc (.cells #[.int .i64 wh, .int .i64 bb, .bool nr] 32)).heap.size := by simp
      obtain ⟨xb, hxb⟩ : ∃ xb, wr.heap.size = xb := ⟨_, rfl⟩
      have hxg : gb < xb := by omega
      rw [hxb] at k0 k1 hxs
      have hpk := pk_rng wh 6 (by decide)
      obtain ⟨wt, hwt⟩ := Int.eq_ofNat_of_zero_le hpk.1
      have c6 := fun W => pick_any wh 6 W hrj.1.1 hrj.1.2 (by decide) (by decide)
      rw [hwt] at c6
      clear hpk hwt
      go_wp2_with (fail)
      try rw [hxb]
      generalize hw5 : wr.alloc (.cells #[.int .i64 wh, .int .i64 bb, .bool nr] 32) = w5 at *
      clear hw5 hT hR hV hB hbx hs d0 d1 d2 hxb hBs
      refine (c6 _).mono ?_
      rintro e w' ⟨rfl, rfl⟩
      have hB5s := B5.size
      clear k0
      by_cases h3 : wt < 3
      · have y3 : (wt : Int) < 3 := by omega
        clear k1
        rcases least_free (8 + q) (cO O) with ⟨k, k1', k2, k3⟩ | hno
        · have cA := alloc_some g (8 + q) _ _ T5 hS k k1' k2 k3
          have hk3 : 3 ≤ k := by
            rcases Nat.lt_or_ge k 3 with h | h
            · unfold cO at k2; rw [if_pos h] at k2; cases k2
            · exact h
          have hO0 : O k = 0 := by unfold cO at k2; rwa [if_neg (by omega)] at k2
          rw [cO_upd hk3] at cA
          have hO1 := okO_upd hO hk3 k1' (v := 1) (by decide)
          have hgc := R5.cell (i := k) (by rw [oRow, rowV_len]; exact k1')
          rw [oRow, rowV_get _ _ _ k1', hO0] at hgc
          have hgf := R5.frozen k
          have z1 : (k : Int) < ((8 + q : Nat) : Int) := by omega
          have z3 : decide ((k : Int) < 3) = false := by rw [decide_eq_false_iff_not]; omega
          have z4 : decide (8 + (q : Int) ≤ (k : Int)) = false := by rw [decide_eq_false_iff_not]; omega
          have hRs := oRow_set (8 + q) O k 1
          have hL1 : ∀ x ∈ L ++ [k], 3 ≤ x ∧ x < 8 + q := fun x hx => by
            rcases List.mem_append.1 hx with h | h
            · exact hLx x h
            · rw [List.mem_singleton] at h; subst h; exact ⟨hk3, k1'⟩
          have hLH := Lib.hid hL1
          have hL2 : Hid ((L ++ [k]).length ≤ j + 1) := Lib.hid (by simp; omega)
          have hvs := Lib.hid (vL_snoc L k)
          have hvl : Hid ((vL L).length = L.length) := Lib.hid (by simp [vL])
          have hS1 := small_cO hn8 hn200 hO1
          clear k2 k3 hO0 hL1 hLx
          go_wp2_with (fail)
          refine cA.mono ?_
          rintro e w6 ⟨rfl, t6⟩
          have B6 := B5.trans (t6.keep _ hgw hB5s)
          have gblk := t6.oth gb R5.lt.2 (by omega)
          have e1 : w6.cell? ⟨gb, k, none⟩ = some (.int .i64 0) := (show w6.cell? ⟨gb, k, none⟩ = w5.cell? ⟨gb, k, none⟩ by simp only [World.cell?, gblk]).trans hgc
          have e2 : w6.frozen? ⟨gb, k, none⟩ = false := by rw [← hgf]; simp only [World.frozen?, gblk]
          have R6 := R5.sameBlock gblk
          have V6 := t6.own V5 (by omega)
          have R7 := R6.set k (.int .i64 1)
          rw [show Value.int .i64 1 = Value.int .i64 ((1 : Nat) : Int) from rfl, hRs] at R7
          have T7 := t6.t.other (k := gb) (o := k) (.int .i64 1) (by omega)
          have V7 := V6.setOther (a := ⟨gb, k, none⟩) (fun e => by have := (V6.o.lt gb e).1; omega) (.int .i64 1)
          have B7 := B6.setCell (p := ⟨gb, k, none⟩) (by show w.heap.size ≤ gb; omega) (.int .i64 1)
          have s7 : gb + 1 ≤ (w6.setCell ⟨gb, k, none⟩ (.int .i64 1)).heap.size := by have := t6.sz; simp; omega
          obtain ⟨lv8, w8, hap, V8, q8, r8, s8⟩ := Own.pushA (P := Try.prog) (T := 45) Try.underlying45 hi hz0 hz1 hz2 rfl V7 (.int .i64 (k : Int)) rfl s7 (by rw [hvl.out]; omega) (by rw [hvl.out]; omega)
          rw [← hvs.out] at V8
          have hsz9 : (w6.setCell ⟨gb, k, none⟩ (.int .i64 1)).heap.size = w6.heap.size := by simp
          rw [hsz9] at hap
          clear hsz9
          have T8 := T7.below q8 (by omega)
          have R8 := R7.below q8 (fun x hx => by simp [Value.ownBlock] at hx; omega)
          have B8 := B7.trans (q8.mono (by omega))
          have s9 := q8.size
          have hx1 := used_any g (8 + q) _ _ T8 hS1
          have hx2 := free_any g (8 + q) _ _ T8 hS1
          have hx3 := fun x => blocks_any g (8 + q) _ _ (T8.drewN x)
          have hu := used_le (cO (upd O k 1)) 240
          have hfu := free_used (usedTo (cO (upd O k 1)) 240) (8 + q) hu hn200
          rw [show (((8 + q : Nat) : Int)) = 8 + (q : Int) by omega] at hfu hx2 hx3
          clear gblk hgc hgf R6 V6 T7 R7 V7 B7 r8 s8 hRs R5 V5 T5 B5 t6 B6
          generalize usedTo (cO (upd O k 1)) 240 = uu at *
          go_wp2_with (at_builtin; refine wpList_append_run hap _ _ rfl rfl rfl rfl rfl ?_)
          refine hx1.mono ?_
          rintro e w' ⟨rfl, rfl⟩
          go_wp2_with (fail)
          refine hx2.mono ?_
          rintro e w' ⟨rfl, kk, rfl⟩
          have hx3 := hx3 kk
          go_wp2_with (fail)
          refine hx3.mono ?_
          rintro e w' ⟨rfl, rfl⟩
          go_wp2_with (fail)
          go_roundw
          case rel => exact ⟨j + 1, upd O k 1, L ++ [k], by omega, by omega, by go_num, hL2.out, hO1, hLH.out, B8.trans ⟨rfl, rfl, rfl, Nat.le_refl _, fun _ _ => rfl⟩, (by have h9 := s9; have h7 := s7; simp at h9 h7; simp; omega), T8.drewN _, R8.drewN kk, V8.drewN kk⟩
          case measure => simp [intOf]; omega
        · have cA := alloc_none g (8 + q) _ _ T5 hS hno
          have hx2 := free_any g (8 + q) _ _ T5 hS
          rw [used_all hno hS.z 240, Nat.min_eq_right (by omega), Int.sub_self] at hx2
          have hLH := Lib.hid hLx
          clear hno hLx
          go_wp2_with (fail)
          refine cA.mono ?_
          rintro e w' ⟨rfl, rfl⟩
          go_wp2_with (fail)
          refine hx2.mono ?_
          rintro e w' ⟨rfl, kk, rfl⟩
          go_wp2_with (fail)
          go_roundw
          case rel => exact ⟨j + 1, O, L, by omega, by omega, by go_num, by omega, hO, hLH.out, B5.trans ⟨rfl, rfl, rfl, Nat.le_refl _, fun _ _ => rfl⟩, by simpa using s5, T5.drewN _, R5.drewN kk, V5.drewN kk⟩
          case measure => simp [intOf]; omega
      · have y3 : decide ((wt : Int) < 3) = false := by rw [decide_eq_false_iff_not]; omega
        have y3' : decide (wt < 3) = false := by rw [decide_eq_false_iff_not]; omega
        have hlen := fun W => V5.reads.len_run (P := Try.prog) Try.underlying45 3 W
        rw [show (vL L).length = L.length by simp [vL]] at hlen
        by_cases hL0 : L.length = 0
        · rw [hL0, show ((0 : Nat) : Int) = 0 from rfl] at hlen
          have hLH := Lib.hid hLx
          clear hLx k1 hL0
          have hx1 := used_any g (8 + q) _ _ T5 hS
          have hx2 := free_any g (8 + q) _ _ T5 hS
          have hx3 := fun x => blocks_any g (8 + q) _ _ (T5.drewN x)
          have hu := used_le (cO (O)) 240
          have hfu := free_used (usedTo (cO (O)) 240) (8 + q) hu hn200
          rw [show (((8 + q : Nat) : Int)) = 8 + (q : Int) by omega] at hfu hx2 hx3
          generalize usedTo (cO (O)) 240 = uu at *
          go_wp2_with (fail)
          refine hx1.mono ?_
          rintro e w' ⟨rfl, rfl⟩
          go_wp2_with (fail)
          refine hx2.mono ?_
          rintro e w' ⟨rfl, kk, rfl⟩
          have hx3 := hx3 kk
          go_wp2_with (fail)
          refine hx3.mono ?_
          rintro e w' ⟨rfl, rfl⟩
          go_wp2_with (fail)
          go_roundw
          case rel => exact ⟨j + 1, O, L, by omega, by omega, by go_num, by omega, hO, hLH.out, B5.trans ⟨rfl, rfl, rfl, Nat.le_refl _, fun _ _ => rfl⟩, by simpa using s5, T5.drewN _, R5.drewN kk, V5.drewN kk⟩
          case measure => simp [intOf]; omega
        · have hLp : (0 : Int) < (L.length : Int) := by omega
          have hLp' : 0 < L.length := by omega
          have hp := pk_rng bb (L.length : Int) (by omega)
          obtain ⟨p, hp0⟩ := Int.eq_ofNat_of_zero_le hp.1
          have cP := fun W => pick_any bb (L.length : Int) W hrj.2.1 hrj.2.2 (by omega) (by omega)
          rw [hp0] at cP
          have hpL : p < L.length := by omega
          obtain ⟨lh, lc, rfl, hl1, hl2⟩ := V5.form (by rw [show (vL L).length = L.length by simp [vL]]; exact hLp')
          have ec := V5.cell (i := p) (by rw [show (vL L).length = L.length by simp [vL]]; exact hpL)
          rw [show (vL L).getD p .nilFunc = .int .i64 ((L[p] : Nat) : Int) by simp [vL, List.getD_eq_getElem?_getD, hpL]] at ec
          obtain ⟨hb3, hbn⟩ := hLx _ (List.getElem_mem hpL)
          have hvl : Hid ((vL L).length = L.length) := Lib.hid (by simp [vL])
          rw [hvl.out]
          rw [hvl.out] at V5 hlen
          have hLH := Lib.hid hLx
          have pL : (p : Int) < (L.length : Int) := by omega
          clear hp hp0 hLx hvl
          generalize L[p] = b at *
          have bn : (b : Int) < ((8 + q : Nat) : Int) := by omega
          have hgc := R5.cell (i := b) (by rw [oRow, rowV_len]; exact hbn)
          rw [oRow, rowV_get _ _ _ hbn] at hgc
          have hgf := R5.frozen b
          have hob : cO O b = O b := by unfold cO; rw [if_neg (by omega)]
          have hoc := hO.c b
          by_cases hw3 : wt = 3
          · have y4 : ((wt : Int) == 3) = true := by rw [beq_iff_eq]; omega
            by_cases ho0 : O b = 0
            · have cI := inc_none g (8 + q) _ (b : Int) _ T5 hS (by unfold cntdB; rw [decide_eq_false_iff_not]; rintro ⟨_, h⟩; rw [cntV, if_pos (by omega)] at h; exact absurd h (by rw [Int.toNat_natCast, hob, ho0]; decide))
              rw [ho0, show ((0 : Nat) : Int) = 0 from rfl] at hgc
              clear hob hoc
              go_wp2_with (fail)
              refine (cP _).mono ?_
              rintro e w' ⟨rfl, rfl⟩
              go_wp2_with (fail)
              refine cI.mono ?_
              rintro e w' ⟨rfl, rfl⟩
              clear cP cI
              have hx1 := used_any g (8 + q) _ _ T5 hS
              have hx2 := free_any g (8 + q) _ _ T5 hS
              have hx3 := fun x => blocks_any g (8 + q) _ _ (T5.drewN x)
              have hu := used_le (cO (O)) 240
              have hfu := free_used (usedTo (cO (O)) 240) (8 + q) hu hn200
              rw [show (((8 + q : Nat) : Int)) = 8 + (q : Int) by omega] at hfu hx2 hx3
              generalize usedTo (cO (O)) 240 = uu at *
              go_wp2_with (fail)
              refine hx1.mono ?_
              rintro e w' ⟨rfl, rfl⟩
              go_wp2_with (fail)
              refine hx2.mono ?_
              rintro e w' ⟨rfl, kk, rfl⟩
              have hx3 := hx3 kk
              go_wp2_with (fail)
              refine hx3.mono ?_
              rintro e w' ⟨rfl, rfl⟩
              go_wp2_with (fail)
              go_roundw
              case rel => exact ⟨j + 1, O, L, by omega, by omega, by go_num, by omega, hO, hLH.out, B5.trans ⟨rfl, rfl, rfl, Nat.le_refl _, fun _ _ => rfl⟩, by simpa using s5, T5.drewN _, R5.drewN kk, V5.drewN kk⟩
              case measure => simp [intOf]; omega
            · by_cases ho255 : O b = 255
              · have cI := inc_most g (8 + q) _ b _ T5 hS hb3 hbn (by rw [hob]; exact ho255)
                rw [ho255, show ((255 : Nat) : Int) = 255 from rfl] at hgc
                clear hob hoc
                go_wp2_with (fail)
                refine (cP _).mono ?_
                rintro e w' ⟨rfl, rfl⟩
                go_wp2_with (fail)
                refine cI.mono ?_
                rintro e w' ⟨rfl, rfl⟩
                clear cP cI
                have hx1 := used_any g (8 + q) _ _ T5 hS
                have hx2 := free_any g (8 + q) _ _ T5 hS
                have hx3 := fun x => blocks_any g (8 + q) _ _ (T5.drewN x)
                have hu := used_le (cO (O)) 240
                have hfu := free_used (usedTo (cO (O)) 240) (8 + q) hu hn200
                rw [show (((8 + q : Nat) : Int)) = 8 + (q : Int) by omega] at hfu hx2 hx3
                generalize usedTo (cO (O)) 240 = uu at *
                go_wp2_with (fail)
                refine hx1.mono ?_
                rintro e w' ⟨rfl, rfl⟩
                go_wp2_with (fail)
                refine hx2.mono ?_
                rintro e w' ⟨rfl, kk, rfl⟩
                have hx3 := hx3 kk
                go_wp2_with (fail)
                refine hx3.mono ?_
                rintro e w' ⟨rfl, rfl⟩
                go_wp2_with (fail)
                go_roundw
                case rel => exact ⟨j + 1, O, L, by omega, by omega, by go_num, by omega, hO, hLH.out, B5.trans ⟨rfl, rfl, rfl, Nat.le_refl _, fun _ _ => rfl⟩, by simpa using s5, T5.drewN _, R5.drewN kk, V5.drewN kk⟩
                case measure => simp [intOf]; omega
              · have cI := inc_good g (8 + q) _ b _ T5 hS hb3 hbn (by rw [hob]; omega) (by rw [hob]; omega)
                rw [hob, cO_upd hb3] at cI
                have hO1 := okO_upd hO hb3 hbn (v := O b + 1) (by omega)
                have hRs := oRow_set (8 + q) O b (O b + 1)
                rw [show ((O b + 1 : Nat) : Int) = ((O b : Nat) : Int) + 1 by omega] at hRs
                have hob2 : ((O b : Nat) : Int) ≤ 255 := by omega
                clear hob hoc
                go_wp2_with (fail)
                refine (cP _).mono ?_
                rintro e w' ⟨rfl, rfl⟩
                go_wp2_with (fail)
                refine cI.mono ?_
                rintro e w6 ⟨rfl, t6⟩
                have B6 := B5.trans (t6.keep _ hgw hB5s)
                have gblk := t6.oth gb R5.lt.2 (by omega)
                have e1 := (show w6.cell? ⟨gb, b, none⟩ = w5.cell? ⟨gb, b, none⟩ by simp only [World.cell?, gblk]).trans hgc
                have e2 := (show w6.frozen? ⟨gb, b, none⟩ = w5.frozen? ⟨gb, b, none⟩ by simp only [World.frozen?, gblk]).trans hgf
                have R6 := R5.sameBlock gblk
                have V6 := t6.own V5 (by omega)
                have R7 := R6.set b (.int .i64 (((O b : Nat) : Int) + 1))
                rw [hRs] at R7
                have T7 := t6.t.other (k := gb) (o := b) (.int .i64 (((O b : Nat) : Int) + 1)) (by omega)
                have V7 := V6.setOther (a := ⟨gb, b, none⟩) (fun e => by have := (V6.o.lt gb e).1; omega) (.int .i64 (((O b : Nat) : Int) + 1))
                have B7 := B6.setCell (p := ⟨gb, b, none⟩) (by show w.heap.size ≤ gb; omega) (.int .i64 (((O b : Nat) : Int) + 1))
                have s7 : gb + 1 ≤ (w6.setCell ⟨gb, b, none⟩ (.int .i64 (((O b : Nat) : Int) + 1))).heap.size := by have := t6.sz; simp; omega
                have hS1 := small_cO hn8 hn200 hO1
                obtain ⟨O', hO'⟩ : ∃ O', upd O b (O b + 1) = O' := ⟨_, rfl⟩
                rw [hO'] at R7 T7 hO1 hS1
                obtain ⟨ob, hob9⟩ : ∃ x, O b = x := ⟨_, rfl⟩
                rw [hob9] at e1 hob2 R7 T7 V7 B7 s7
                try rw [hob9]
                clear gblk hgc hgf R6 V6 hRs R5 V5 T5 B5 hO' t6 hob9 ho0 ho255
                have hx1 := used_any g (8 + q) _ _ T7 hS1
                have hx2 := free_any g (8 + q) _ _ T7 hS1
                have hx3 := fun x => blocks_any g (8 + q) _ _ (T7.drewN x)
                have hu := used_le (cO (O')) 240
                have hfu := free_used (usedTo (cO (O')) 240) (8 + q) hu hn200
                rw [show (((8 + q : Nat) : Int)) = 8 + (q : Int) by omega] at hfu hx2 hx3
                generalize usedTo (cO (O')) 240 = uu at *
                go_wp2_with (fail)
                refine hx1.mono ?_
                rintro e w' ⟨rfl, rfl⟩
                go_wp2_with (fail)
                refine hx2.mono ?_
                rintro e w' ⟨rfl, kk, rfl⟩
                have hx3 := hx3 kk
                go_wp2_with (fail)
                refine hx3.mono ?_
                rintro e w' ⟨rfl, rfl⟩
                go_wp2_with (fail)
                go_roundw
                case rel => exact ⟨j + 1, O', L, by omega, by omega, by go_num, by omega, hO1, hLH.out, B7.trans ⟨rfl, rfl, rfl, Nat.le_refl _, fun _ _ => rfl⟩, by simpa using s7, T7.drewN _, R7.drewN kk, V7.drewN kk⟩
                case measure => simp [intOf]; omega
          · have y4 : ((wt : Int) == 3) = false := by rw [beq_eq_false_iff_ne]; omega
            by_cases ho0 : O b = 0
            · have cI := dec_none g (8 + q) _ (b : Int) _ T5 hS (by unfold cntdB; rw [decide_eq_false_iff_not]; rintro ⟨_, h⟩; rw [cntV, if_pos (by omega)] at h; exact absurd h (by rw [Int.toNat_natCast, hob, ho0]; decide))
              rw [ho0, show ((0 : Nat) : Int) = 0 from rfl] at hgc
              clear hob hoc
              go_wp2_with (fail)
              refine (cP _).mono ?_
              rintro e w' ⟨rfl, rfl⟩
              go_wp2_with (fail)
              refine cI.mono ?_
              rintro e w' ⟨rfl, rfl⟩
              clear cP cI
              have hx1 := used_any g (8 + q) _ _ T5 hS
              have hx2 := free_any g (8 + q) _ _ T5 hS
              have hx3 := fun x => blocks_any g (8 + q) _ _ (T5.drewN x)
              have hu := used_le (cO (O)) 240
              have hfu := free_used (usedTo (cO (O)) 240) (8 + q) hu hn200
              rw [show (((8 + q : Nat) : Int)) = 8 + (q : Int) by omega] at hfu hx2 hx3
              generalize usedTo (cO (O)) 240 = uu at *
              go_wp2_with (fail)
              refine hx1.mono ?_
              rintro e w' ⟨rfl, rfl⟩
              go_wp2_with (fail)
              refine hx2.mono ?_
              rintro e w' ⟨rfl, kk, rfl⟩
              have hx3 := hx3 kk
              go_wp2_with (fail)
              refine hx3.mono ?_
              rintro e w' ⟨rfl, rfl⟩
              go_wp2_with (fail)
              go_roundw
              case rel => exact ⟨j + 1, O, L, by omega, by omega, by go_num, by omega, hO, hLH.out, B5.trans ⟨rfl, rfl, rfl, Nat.le_refl _, fun _ _ => rfl⟩, by simpa using s5, T5.drewN _, R5.drewN kk, V5.drewN kk⟩
              case measure => simp [intOf]; omega
            · have cI := dec_good g (8 + q) _ b _ T5 hS hb3 hbn (by rw [hob]; omega)
              rw [hob, cO_upd hb3] at cI
              have hO1 := okO_upd hO hb3 hbn (v := O b - 1) (by omega)
              have hRs := oRow_set (8 + q) O b (O b - 1)
              rw [show ((O b - 1 : Nat) : Int) = ((O b : Nat) : Int) - 1 by omega] at hRs cI
              have hob2 : ((O b : Nat) : Int) ≤ 255 := by omega
              have hob3 : (0 : Int) < ((O b : Nat) : Int) := by omega
              have hob4 : decide (0 < O b) = true := decide_eq_true (by omega)
              clear hob hoc
              go_wp2_with (fail)
              refine (cP _).mono ?_
              rintro e w' ⟨rfl, rfl⟩
              go_wp2_with (fail)
              refine cI.mono ?_
              rintro e w6 ⟨rfl, t6⟩
              have B6 := B5.trans (t6.keep _ hgw hB5s)
              have gblk := t6.oth gb R5.lt.2 (by omega)
              have e1 := (show w6.cell? ⟨gb, b, none⟩ = w5.cell? ⟨gb, b, none⟩ by simp only [World.cell?, gblk]).trans hgc
              have e2 := (show w6.frozen? ⟨gb, b, none⟩ = w5.frozen? ⟨gb, b, none⟩ by simp only [World.frozen?, gblk]).trans hgf
              have R6 := R5.sameBlock gblk
              have V6 := t6.own V5 (by omega)
              have R7 := R6.set b (.int .i64 (((O b : Nat) : Int) - 1))
              rw [hRs] at R7
              have T7 := t6.t.other (k := gb) (o := b) (.int .i64 (((O b : Nat) : Int) - 1)) (by omega)
              have V7 := V6.setOther (a := ⟨gb, b, none⟩) (fun e => by have := (V6.o.lt gb e).1; omega) (.int .i64 (((O b : Nat) : Int) - 1))
              have B7 := B6.setCell (p := ⟨gb, b, none⟩) (by show w.heap.size ≤ gb; omega) (.int .i64 (((O b : Nat) : Int) - 1))
              have s7 : gb + 1 ≤ (w6.setCell ⟨gb, b, none⟩ (.int .i64 (((O b : Nat) : Int) - 1))).heap.size := by have := t6.sz; simp; omega
              have hS1 := small_cO hn8 hn200 hO1
              obtain ⟨O', hO'⟩ : ∃ O', upd O b (O b - 1) = O' := ⟨_, rfl⟩
              rw [hO'] at R7 T7 hO1 hS1
              obtain ⟨ob, hob9⟩ : ∃ x, O b = x := ⟨_, rfl⟩
              rw [hob9] at e1 hob2 hob3 hob4 R7 T7 V7 B7 s7
              try rw [hob9]
              clear gblk hgc hgf R6 V6 hRs R5 V5 T5 B5 hO' t6 hob9 ho0
              have hx1 := used_any g (8 + q) _ _ T7 hS1
              have hx2 := free_any g (8 + q) _ _ T7 hS1
              have hx3 := fun x => blocks_any g (8 + q) _ _ (T7.drewN x)
              have hu := used_le (cO (O')) 240
              have hfu := free_used (usedTo (cO (O')) 240) (8 + q) hu hn200
              rw [show (((8 + q : Nat) : Int)) = 8 + (q : Int) by omega] at hfu hx2 hx3
              generalize usedTo (cO (O')) 240 = uu at *
              go_wp2_with (fail)
              refine hx1.mono ?_
              rintro e w' ⟨rfl, rfl⟩
              go_wp2_with (fail)
              refine hx2.mono ?_
              rintro e w' ⟨rfl, kk, rfl⟩
              have hx3 := hx3 kk
              go_wp2_with (fail)
              refine hx3.mono ?_
              rintro e w' ⟨rfl, rfl⟩
              go_wp2_with (fail)
              go_roundw
              case rel => exact ⟨j + 1, O', L, by omega, by omega, by go_num, by omega, hO1, hLH.out, B7.trans ⟨rfl, rfl, rfl, Nat.le_refl _, fun _ _ => rfl⟩, by simpa using s7, T7.drewN _, R7.drewN kk, V7.drewN kk⟩
              case measure => simp [intOf]; omega
    · have hexit : (¬ j < l.length) ∨ (j < l.length ∧ ¬ j < 400) := by omega
      have hOH := Lib.hid hO
      have s1 := hs
      clear hc hV hLx hLj hS hO
      rcases hexit with hx | ⟨hx, hx2⟩
      · have y1 : decide (j < l.length) = false := by rw [decide_eq_false_iff_not]; exact hx
        go_wp2_with (fail)
        go_loopw [20] (fun t wr => ∃ (b : Nat) (O : Nat → Nat), 3 ≤ b ∧ b ≤ 8 + q ∧ t = .int .i64 (b : Int) ∧ OkO (8 + q) O ∧ (∀ i, i < b → O i = 0) ∧ Below w.heap.size w wr ∧ TabAt wr g (8 + q) (cO O) ∧ Own wr gb 3 (.slice (some ⟨gb, 0, none⟩) (8 + q) (8 + q)) (oRow (8 + q) O)) (fun t _ => 8 + q - (intOf t).toNat)
        case atStart => exact ⟨3, O, by omega, by omega, rfl, hOH.out, hOH.out.lo, hB, hT, hR⟩
        case round =>
          obtain ⟨b, P, hb3, hbn, rfl, hP, hz, hB6, hT6, hR6⟩ := hrel
          rename World => wA
          have hB6s := hB6.size
          by_cases hlt : b < 8 + q
          · have x1 : (b : Int) < 8 + (q : Int) := by omega
            have x2 : (b : Int) < ((8 + q : Nat) : Int) := by omega
            have cC := fun W h => count_any g (8 + q) (cO P) (b : Int) W h (small_cO hn8 hn200 hP)
            rw [show cntV (8 + q) (cO P) (b : Int) = P b from by rw [cntV, if_pos (by omega)]; show cO P b = P b; unfold cO; rw [if_neg (by omega)]] at cC
            have hgc := hR6.cell (i := b) (by rw [oRow, rowV_len]; exact hlt)
            rw [oRow, rowV_get _ _ _ hlt] at hgc
            have hTd := fun k => hT6.drewN k
            have hzH := Lib.hid hz
            have hb0 : (0 : Int) ≤ (b : Int) := by omega
            have hRB := Lib.hid (upd_self P b)
            obtain ⟨pb, hpb⟩ : ∃ x, P b = x := ⟨_, rfl⟩
            have hpb255 : pb ≤ 255 := by rw [← hpb]; exact hP.c b
            rw [hpb] at hgc cC hRB
            clear hz hpb
            go_wp2_with (fail)
            go_quiet ((go_at_call 19; exact Calls.quiet_of_same ((cC _ (hTd _)).mono fun _ _ h => ⟨h.1, h.2.symm⟩)))
            go_wp2_with (fail)
            have hT7 := hT6.drewN nq
            have hR7 := hR6.drewN nq
            have hB7 : Below w.heap.size w (wA.drewN nq) := hB6.trans ⟨rfl, rfl, rfl, Nat.le_refl _, fun _ _ => rfl⟩
            generalize wA.drewN nq = wC at *
            clear hTd cC hB6 hT6 hR6 hgc hB6s
            go_loopw [186] (fun _ wr => ∃ x : Nat, x ≤ pb ∧ Below w.heap.size w wr ∧ TabAt wr g (8 + q) (cO (upd P b x)) ∧ Own wr gb 3 (.slice (some ⟨gb, 0, none⟩) (8 + q) (8 + q)) (oRow (8 + q) (upd P b x))) (fun _ wr => cellN wr gb b)
            case atStart => exact ⟨pb, Nat.le_refl _, hB7, by rw [hRB.out]; exact hT7, by rw [hRB.out]; exact hR7⟩
            case round =>
              obtain ⟨x, hx, hB9, hT9, hR9⟩ := hrel
              rename World => wB
              have hB9s := hB9.size
              have hPx := okO_upd hP hb3 hlt (v := x) (by omega)
              have hgc := hR9.cell (i := b) (by rw [oRow, rowV_len]; exact hlt)
              rw [oRow, rowV_get _ _ _ hlt, show upd P b x b = x from if_pos rfl] at hgc
              have hgf := hR9.frozen b
              have hcn : cellN wB gb b = x := by unfold cellN; rw [hgc]; rfl
              cases x with
              | zero =>
                rw [show ((0 : Nat) : Int) = 0 from rfl] at hgc
                have hzz : Hid (∀ i, i < b + 1 → upd P b 0 i = 0) := Lib.hid (fun i hi => by
                  by_cases e : i = b
                  · exact if_pos e
                  · exact (if_neg e).trans (hzH.out i (by omega)))
                clear hcn
                go_wp2_with (fail)
                go_roundw
                case rel => exact ⟨b + 1, upd P b 0, by omega, by omega, by go_num, hPx, hzz.out, hB9, hT9, hR9⟩
                case measure => simp [intOf]; omega
              | succ y =>
                have cD := dec_good g (8 + q) _ b _ hT9 (small_cO hn8 hn200 hPx) hb3 hlt (by unfold cO; rw [if_neg (by omega), show upd P b (y + 1) b = y + 1 from if_pos rfl]; omega)
                rw [cO_upd hb3, upd_upd, show cO (upd P b (y + 1)) b = y + 1 from by unfold cO; rw [if_neg (by omega)]; exact if_pos rfl, show y + 1 - 1 = y from rfl] at cD
                rw [show ((y + 1 : Nat) : Int) = (y : Int) + 1 by omega] at hgc
                have hy255 : (y : Int) ≤ 255 := by omega
                have hy0 : (0 : Int) < (y : Int) + 1 := by omega
                have hcnH := Lib.hid hcn
                have hRs := oRow_set (8 + q) (upd P b (y + 1)) b y
                rw [upd_upd] at hRs
                clear hcn
                go_wp2_with (fail)
                refine cD.mono ?_
                rintro e w6 ⟨rfl, t6⟩
                have B6 := hB9.trans (t6.keep _ hgw hB9s)
                have gblk := t6.oth gb hR9.lt.2 (by omega)
                have e1 := (show w6.cell? ⟨gb, b, none⟩ = wB.cell? ⟨gb, b, none⟩ by simp only [World.cell?, gblk]).trans hgc
                have e2 := (show w6.frozen? ⟨gb, b, none⟩ = wB.frozen? ⟨gb, b, none⟩ by simp only [World.frozen?, gblk]).trans hgf
                have R6 := hR9.sameBlock gblk
                have R7 := R6.set b (.int .i64 (y : Int))
                rw [hRs] at R7
                have T7 := t6.t.other (k := gb) (o := b) (.int .i64 (y : Int)) (by omega)
                have B7 := B6.setCell (p := ⟨gb, b, none⟩) (by show w.heap.size ≤ gb; omega) (.int .i64 (y : Int))
                have hcn2 : Hid (cellN (w6.setCell ⟨gb, b, none⟩ (.int .i64 (y : Int))) gb b = y) := Lib.hid (by
                  unfold cellN; rw [World.cell?_setCell_same' w6 _ _ (by rw [e1]; rfl)]; rfl)
                clear gblk hgc hgf R6 hRs
                go_wp2_with (fail)
                go_roundw
                case rel => exact ⟨y, by omega, B7, T7, R7⟩
                case measure => rw [hcn2.out, hcnH.out]; omega
          · obtain rfl : b = 8 + q := by omega
            have hP0 : cO P = cnt0 := by
              funext i; unfold cO cnt0
              by_cases h : i < 3
              · rw [if_pos h, if_pos h]
              · rw [if_neg h, if_neg h]
                rcases Nat.lt_or_ge i (8 + q) with h2 | h2
                · exact hz i h2
                · exact hP.hi i h2
            rw [hP0] at hT6
            have cF := free_any g (8 + q) _ _ hT6 (small0 hn8 hn200)
            rw [show usedTo cnt0 240 = 3 from (used_cntK 3 240).trans rfl, show ((8 + q : Nat) : Int) - ((3 : Nat) : Int) = 8 + (q : Int) - 3 by omega] at cF
            clear hP0 hz
            go_wp2_with (fail)
            refine cF.mono ?_
            rintro e w' ⟨rfl, kk, rfl⟩
            go_wp2_with (fail)
            go_ret
            exact ⟨by simp, hB6.trans ⟨rfl, rfl, rfl, Nat.le_refl _, fun _ _ => rfl⟩⟩
      · have y1 : (j : Int) < (l.length : Int) := by omega
        have y2 : decide ((j : Int) < 400) = false := by rw [decide_eq_false_iff_not]; omega
        go_wp2_with (fail)
        go_loopw [20] (fun t wr => ∃ (b : Nat) (O : Nat → Nat), 3 ≤ b ∧ b ≤ 8 + q ∧ t = .int .i64 (b : Int) ∧ OkO (8 + q) O ∧ (∀ i, i < b → O i = 0) ∧ Below w.heap.size w wr ∧ TabAt wr g (8 + q) (cO O) ∧ Own wr gb 3 (.slice (some ⟨gb, 0, none⟩) (8 + q) (8 + q)) (oRow (8 + q) O)) (fun t _ => 8 + q - (intOf t).toNat)
        case atStart => exact ⟨3, O, by omega, by omega, rfl, hOH.out, hOH.out.lo, hB, hT, hR⟩
        case round =>
          obtain ⟨b, P, hb3, hbn, rfl, hP, hz, hB6, hT6, hR6⟩ := hrel
          rename World => wA
          have hB6s := hB6.size
          by_cases hlt : b < 8 + q
          · have x1 : (b : Int) < 8 + (q : Int) := by omega
            have x2 : (b : Int) < ((8 + q : Nat) : Int) := by omega
            have cC := fun W h => count_any g (8 + q) (cO P) (b : Int) W h (small_cO hn8 hn200 hP)
            rw [show cntV (8 + q) (cO P) (b : Int) = P b from by rw [cntV, if_pos (by omega)]; show cO P b = P b; unfold cO; rw [if_neg (by omega)]] at cC
            have hgc := hR6.cell (i := b) (by rw [oRow, rowV_len]; exact hlt)
            rw [oRow, rowV_get _ _ _ hlt] at hgc
            have hTd := fun k => hT6.drewN k
            have hzH := Lib.hid hz
            have hb0 : (0 : Int) ≤ (b : Int) := by omega
            have hRB := Lib.hid (upd_self P b)
            obtain ⟨pb, hpb⟩ : ∃ x, P b = x := ⟨_, rfl⟩
            have hpb255 : pb ≤ 255 := by rw [← hpb]; exact hP.c b
            rw [hpb] at hgc cC hRB
            clear hz hpb
            go_wp2_with (fail)
            go_quiet ((go_at_call 19; exact Calls.quiet_of_same ((cC _ (hTd _)).mono fun _ _ h => ⟨h.1, h.2.symm⟩)))
            go_wp2_with (fail)
            have hT7 := hT6.drewN nq
            have hR7 := hR6.drewN nq
            have hB7 : Below w.heap.size w (wA.drewN nq) := hB6.trans ⟨rfl, rfl, rfl, Nat.le_refl _, fun _ _ => rfl⟩
            generalize wA.drewN nq = wC at *
            clear hTd cC hB6 hT6 hR6 hgc hB6s
            go_loopw [186] (fun _ wr => ∃ x : Nat, x ≤ pb ∧ Below w.heap.size w wr ∧ TabAt wr g (8 + q) (cO (upd P b x)) ∧ Own wr gb 3 (.slice (some ⟨gb, 0, none⟩) (8 + q) (8 + q)) (oRow (8 + q) (upd P b x))) (fun _ wr => cellN wr gb b)
            case atStart => exact ⟨pb, Nat.le_refl _, hB7, by rw [hRB.out]; exact hT7, by rw [hRB.out]; exact hR7⟩
            case round =>
              obtain ⟨x, hx, hB9, hT9, hR9⟩ := hrel
              rename World => wB
              have hB9s := hB9.size
              have hPx := okO_upd hP hb3 hlt (v := x) (by omega)
              have hgc := hR9.cell (i := b) (by rw [oRow, rowV_len]; exact hlt)
              rw [oRow, rowV_get _ _ _ hlt, show upd P b x b = x from if_pos rfl] at hgc
              have hgf := hR9.frozen b
              have hcn : cellN wB gb b = x := by unfold cellN; rw [hgc]; rfl
              cases x with
              | zero =>
                rw [show ((0 : Nat) : Int) = 0 from rfl] at hgc
                have hzz : Hid (∀ i, i < b + 1 → upd P b 0 i = 0) := Lib.hid (fun i hi => by
                  by_cases e : i = b
                  · exact if_pos e
                  · exact (if_neg e).trans (hzH.out i (by omega)))
                clear hcn
                go_wp2_with (fail)
                go_roundw
                case rel => exact ⟨b + 1, upd P b 0, by omega, by omega, by go_num, hPx, hzz.out, hB9, hT9, hR9⟩
                case measure => simp [intOf]; omega
              | succ y =>
                have cD := dec_good g (8 + q) _ b _ hT9 (small_cO hn8 hn200 hPx) hb3 hlt (by unfold cO; rw [if_neg (by omega), show upd P b (y + 1) b = y + 1 from if_pos rfl]; omega)
                rw [cO_upd hb3, upd_upd, show cO (upd P b (y + 1)) b = y + 1 from by unfold cO; rw [if_neg (by omega)]; exact if_pos rfl, show y + 1 - 1 = y from rfl] at cD
                rw [show ((y + 1 : Nat) : Int) = (y : Int) + 1 by omega] at hgc
                have hy255 : (y : Int) ≤ 255 := by omega
                have hy0 : (0 : Int) < (y : Int) + 1 := by omega
                have hcnH := Lib.hid hcn
                have hRs := oRow_set (8 + q) (upd P b (y + 1)) b y
                rw [upd_upd] at hRs
                clear hcn
                go_wp2_with (fail)
                refine cD.mono ?_
                rintro e w6 ⟨rfl, t6⟩
                have B6 := hB9.trans (t6.keep _ hgw hB9s)
                have gblk := t6.oth gb hR9.lt.2 (by omega)
                have e1 := (show w6.cell? ⟨gb, b, none⟩ = wB.cell? ⟨gb, b, none⟩ by simp only [World.cell?, gblk]).trans hgc
                have e2 := (show w6.frozen? ⟨gb, b, none⟩ = wB.frozen? ⟨gb, b, none⟩ by simp only [World.frozen?, gblk]).trans hgf
                have R6 := hR9.sameBlock gblk
                have R7 := R6.set b (.int .i64 (y : Int))
                rw [hRs] at R7
                have T7 := t6.t.other (k := gb) (o := b) (.int .i64 (y : Int)) (by omega)
                have B7 := B6.setCell (p := ⟨gb, b, none⟩) (by show w.heap.size ≤ gb; omega) (.int .i64 (y : Int))
                have hcn2 : Hid (cellN (w6.setCell ⟨gb, b, none⟩ (.int .i64 (y : Int))) gb b = y) := Lib.hid (by
                  unfold cellN; rw [World.cell?_setCell_same' w6 _ _ (by rw [e1]; rfl)]; rfl)
                clear gblk hgc hgf R6 hRs
                go_wp2_with (fail)
                go_roundw
                case rel => exact ⟨y, by omega, B7, T7, R7⟩
                case measure => rw [hcn2.out, hcnH.out]; omega
          · obtain rfl : b = 8 + q := by omega
            have hP0 : cO P = cnt0 := by
              funext i; unfold cO cnt0
              by_cases h : i < 3
              · rw [if_pos h, if_pos h]
              · rw [if_neg h, if_neg h]
                rcases Nat.lt_or_ge i (8 + q) with h2 | h2
                · exact hz i h2
                · exact hP.hi i h2
            rw [hP0] at hT6
            have cF := free_any g (8 + q) _ _ hT6 (small0 hn8 hn200)
            rw [show usedTo cnt0 240 = 3 from (used_cntK 3 240).trans rfl, show ((8 + q : Nat) : Int) - ((3 : Nat) : Int) = 8 + (q : Int) - 3 by omega] at cF
            clear hP0 hz
            go_wp2_with (fail)
            refine cF.mono ?_
            rintro e w' ⟨rfl, kk, rfl⟩
            go_wp2_with (fail)
            go_ret
            exact ⟨by simp, hB6.trans ⟨rfl, rfl, rfl, Nat.le_refl _, fun _ _ => rfl⟩⟩
end Go.Proofs.Ytbfdjlibhinkiaa
