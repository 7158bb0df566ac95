/- count's laws: any texts are a table, or none. -/
import Derived.Test.YtbfdjlibhinkiaaCntRef5
import Derived.Test.YtbfdjlibhinkiaaCntLaw3
import Derived.Deep.RegionHeld3
namespace Go.Proofs.Ytbfdjlibhinkiaa
open Go.RowKit
set_option linter.unusedVariables false
set_option linter.unusedSimpArgs false

/-- The table that texts are, if they are one. -/
def tabO (b : Int) (l : List ByteArray) : Option (Nat × (Nat → Nat)) :=
  if 8 ≤ b ∧ b ≤ 200 then (match l with | [a, c] => if ofB b.toNat a c then some (b.toNat, ofK a c b.toNat) else none | _ => none) else none
def TOr (w : World) (v : Value) : Option (Nat × (Nat → Nat)) → Prop
  | none => v = .pointer none
  | some (n, C) => ∃ g, v = .pointer (some ⟨g, 0, none⟩) ∧ TabAt w g n C ∧ Small n C
def ROr (w : World) (v : Value) : Option (Nat × (Nat → Nat)) → Prop
  | none => v = .pointer none
  | some (n, C) => ∃ p h, v = .pointer (some ⟨p, 0, none⟩) ∧ RTab w p h n C ∧ Small n C
theorem TOr.below {w w' : World} {v : Value} {o : Option (Nat × (Nat → Nat))} (h : TOr w v o) (hb : Below w.heap.size w w') : TOr w' v o := by
  cases o with
  | none => exact h
  | some x => obtain ⟨n, C⟩ := x; obtain ⟨g, e, t, s⟩ := h; exact ⟨g, e, t.below hb t.lt, s⟩
theorem ROr.below {w w' : World} {v : Value} {o : Option (Nat × (Nat → Nat))} (h : ROr w v o) (hb : Below w.heap.size w w') : ROr w' v o := by
  cases o with
  | none => exact h
  | some x => obtain ⟨n, C⟩ := x; obtain ⟨p, k, e, t, s⟩ := h; exact ⟨p, k, e, t.below hb t.pl, s⟩
def errO (o : Option (Nat × (Nat → Nat))) : Int := if o.isSome then 0 else 1
def OfAll (w : World) (o : Option (Nat × (Nat → Nat))) (e : Ending) (w' : World) : Prop := ∃ u, e = .returned (.tuple #[u, .int .i64 (errO o)]) ∧ Below w.heap.size w w' ∧ TOr w' u o
def ROfAll (w : World) (o : Option (Nat × (Nat → Nat))) (e : Ending) (w' : World) : Prop := ∃ u, e = .returned (.tuple #[u, .int .i64 (errO o)]) ∧ Below w.heap.size w w' ∧ ROr w' u o
theorem two_of {l : List ByteArray} (h : l.length = 2) : ∃ a c, l = [a, c] := by
  match l, h with
  | [a, c], _ => exact ⟨a, c, rfl⟩
theorem tab_len {b : Int} {l : List ByteArray} (h : l.length ≠ 2) : tabO b l = none := by
  unfold tabO
  split
  · split
    · simp at h
    · rfl
  · rfl
theorem tab_bad {b : Int} (l : List ByteArray) (h : ¬ (8 ≤ b ∧ b ≤ 200)) : tabO b l = none := if_neg h
theorem tab_two {n : Nat} (a c : ByteArray) (h1 : 8 ≤ n) (h2 : n ≤ 200) : tabO (n : Int) [a, c] = if ofB n a c then some (n, ofK a c n) else none := by
  unfold tabO
  rw [if_pos (by omega), Int.toNat_natCast]
theorem of_all (b : Int) (v : Value) (l : List ByteArray) (w : World) (hR : Reads w v (l.map .string)) (hz : ∀ s ∈ l, s.size ≤ 140737488355328) : Calls Try.prog 30 #[.int .i64 b, v] w (OfAll w (tabO b l)) := by
  by_cases hb : b < 8 ∨ 200 < b
  · rw [tab_bad l (by omega)]
    exact (of_bad b v w hb).mono fun e w' h => ⟨_, h.1, h.2, rfl⟩
  · obtain ⟨n, rfl⟩ := Int.eq_ofNat_of_zero_le (show 0 ≤ b by omega)
    by_cases h2 : l.length = 2
    · obtain ⟨a, c, rfl⟩ := two_of h2
      rw [tab_two a c (by omega) (by omega)]
      refine (of_any n v a c w (by omega) (by omega) hR (hz a (by simp)) (hz c (by simp))).mono fun e w' h => ?_
      unfold OfT at h
      cases hB : ofB n a c with
      | true =>
        rw [hB, if_pos rfl] at h
        rw [if_pos rfl]
        exact ⟨_, h.1, h.2.1, _, rfl, h.2.2, ofK_small a c (by omega) (by omega) (by omega) (Nat.le_refl _)⟩
      | false =>
        rw [hB, if_neg (by decide)] at h
        rw [if_neg (by decide)]
        exact ⟨_, h.1, h.2, rfl⟩
    · rw [tab_len h2]
      exact (of_len n v l w (by omega) (by omega) hR h2).mono fun e w' h => ⟨_, h.1, h.2, rfl⟩
theorem rof_all (b : Int) (v : Value) (l : List ByteArray) (w : World) (hR : Reads w v (l.map .string)) (hz : ∀ s ∈ l, s.size ≤ 140737488355328) : Calls Try.prog 31 #[.int .i64 b, v] w (ROfAll w (tabO b l)) := by
  by_cases hb : b < 8 ∨ 200 < b
  · rw [tab_bad l (by omega)]
    exact (rof_bad b v w hb).mono fun e w' h => ⟨_, h.1, h.2, rfl⟩
  · obtain ⟨n, rfl⟩ := Int.eq_ofNat_of_zero_le (show 0 ≤ b by omega)
    by_cases h2 : l.length = 2
    · obtain ⟨a, c, rfl⟩ := two_of h2
      rw [tab_two a c (by omega) (by omega)]
      refine (rof_any n v a c w (by omega) (by omega) hR (hz a (by simp)) (hz c (by simp))).mono fun e w' h => ?_
      unfold OfR at h
      cases hB : ofB n a c with
      | true =>
        rw [hB, if_pos rfl] at h
        rw [if_pos rfl]
        obtain ⟨p, k, e1, e2, e3, e4⟩ := h
        exact ⟨_, e1, e3, p, k, rfl, e4, ofK_small a c (by omega) (by omega) (by omega) (Nat.le_refl _)⟩
      | false =>
        rw [hB, if_neg (by decide)] at h
        rw [if_neg (by decide)]
        exact ⟨_, h.1, h.2, rfl⟩
    · rw [tab_len h2]
      exact (rof_len n v l w (by omega) (by omega) hR h2).mono fun e w' h => ⟨_, h.1, h.2, rfl⟩
set_option maxRecDepth 100000 in
set_option maxHeartbeats 2000000 in
theorem tsame_any (u v : Value) (o : Option (Nat × (Nat → Nat))) (w : World) (hT : TOr w u o) (hR : ROr w v o) : Calls Try.prog 32 #[u, v] w fun e w' => e = .returned (.bool true) ∧ Below w.heap.size w w' := by
  cases o with
  | none =>
    cases hT
    cases hR
    go_enter Try.func32, Try.ntmps32
    go_wp2_with (fail)
    go_ret
    exact ⟨rfl, Below.refl _ _⟩
  | some x =>
    obtain ⟨n, C⟩ := x
    obtain ⟨g, rfl, t, hS⟩ := hT
    obtain ⟨p, h, rfl, r, _⟩ := hR
    go_enter Try.func32, Try.ntmps32
    go_wp2_with (fail)
    refine (lay_any _ _ _ _ t hS).mono ?_
    rintro e wa ⟨rfl, ba, ra⟩
    have ta := t.below ba t.lt
    have qa := r.below ba r.pl
    go_wp2_with (fail)
    refine (rlay_any _ _ _ _ _ qa hS).mono ?_
    rintro e wb ⟨vb, rfl, bb, rb⟩
    have eb := below_e ba bb
    have tb := ta.below bb ta.lt
    have qb := qa.below bb qa.pl
    have sm := same_any _ _ [layS C 0, layS C 120] [layS C 0, layS C 120] wb (ra.below bb) rb (by simp) (by simp)
    rw [decide_eq_true rfl] at sm
    clear ba bb ra rb ta qa t r
    go_wp2_with (fail)
    refine sm.mono ?_
    rintro e wc ⟨rfl, bc, _⟩
    have tc := tb.below bc tb.lt
    have qc := qb.below bc qb.pl
    have ec := below_e eb bc
    clear sm tb qb eb bc
    go_wp2_with (fail)
    refine (used_any _ _ _ _ tc hS).mono ?_
    rintro e w' ⟨rfl, rfl⟩
    go_wp2_with (fail)
    refine (rused_any _ _ _ _ _ qc hS).mono ?_
    rintro e w' ⟨rfl, rfl⟩
    go_wp2_with (fail)
    refine (blocks_any _ _ _ _ tc).mono ?_
    rintro e w' ⟨rfl, rfl⟩
    go_wp2_with (fail)
    refine (rblocks_any _ _ _ _ _ qc).mono ?_
    rintro e w' ⟨rfl, rfl⟩
    go_wp2_with (fail)
    go_ret
    exact ⟨rfl, ec⟩
theorem layS_size' (D : Nat → Nat) (a : Nat) : (layS D a).size ≤ 140737488355328 := by rw [layS_size]; decide
theorem upd_le {D : Nat → Nat} {i v : Nat} (h : ∀ j, D j ≤ 255) (hv : v ≤ 255) : ∀ j, upd D i v j ≤ 255 := fun j => by unfold upd; split; exact hv; exact h j
set_option maxRecDepth 100000 in
set_option maxHeartbeats 4000000 in
theorem takes_walk (b : Int) (v vr : Value) (l : List ByteArray) (raw : List Int) (w : World) (hR : Reads w v (l.map .string)) (hz : ∀ s ∈ l, s.size ≤ 140737488355328)
    (R : Reads w vr (raw.map (.int .i64))) (hr : ∀ i, i < raw.length → -9223372036854775808 ≤ raw.getD i 0 ∧ raw.getD i 0 ≤ 9223372036854775807) (ll : raw.length ≤ 140737488355328) :
    Calls Try.prog 4 #[.int .i64 b, v, vr] w fun e w' => e = .returned (.bool true) ∧ Below w.heap.size w w' := by
  obtain ⟨ab, cb, rfl, cell⟩ := R.nums
  clear R
  go_enter Try.func4, Try.ntmps4
  go_wp2_with (fail)
  refine (awake_any _).mono ?_
  rintro e w1 ⟨rfl, b1⟩
  have R1 := hR.below b1
  have hsz1 := b1.size
  go_wp2_with (fail)
  refine (of_all b v l w1 R1 hz).mono ?_
  rintro e w2 ⟨u2, rfl, b2, t2⟩
  have R2 := R1.below b2
  have E2 := below_e b1 b2
  clear b1 R1
  go_wp2_with (fail)
  refine (rof_all b v l w2 R2 hz).mono ?_
  rintro e w3 ⟨u3, rfl, b3, t3⟩
  have T3 := t2.below b3
  have E3 := below_e E2 b3
  clear R2 t2 b2 b3 hR hz
  generalize tabO b l = o1 at *
  obtain ⟨w4, hmk, r4, b4, _⟩ := BRow.make_run w3 240 (by omega)
  rw [show ((240 : Nat) : Int) = 240 from rfl] at hmk
  obtain ⟨gb, hgb⟩ : ∃ gb, w3.heap.size = gb := ⟨_, rfl⟩
  have E4 := below_e E3 b4
  have hgw : w.heap.size ≤ gb := by have := E3.size; omega
  have b4' := b4
  rw [hgb] at hmk r4 b4'
  rw [bl_zero] at r4
  clear E3 E2 b4
  have HG := Lib.hid hgb
  -- the three first bytes
  have c0 := r4.cell (i := 0) (by rw [bl_len]; omega)
  have f0 := r4.frozen 0
  have r5 := r4.set (i := 0) (by rw [bl_len]; omega) (UInt8.ofNat 1) (1 : Int) (by decide)
  rw [bl_set _ _ _ (by omega)] at r5
  have E5 := E4.setCell (p := ⟨gb, 0, none⟩) hgw (.int .u8 1)
  have B5 := b4'.setCell (p := ⟨gb, 0, none⟩) (Nat.le_refl _) (.int .u8 1)
  have c1 := r5.cell (i := 1) (by rw [bl_len]; omega)
  have f1 := r5.frozen 1
  have r6 := r5.set (i := 1) (by rw [bl_len]; omega) (UInt8.ofNat 1) (1 : Int) (by decide)
  rw [bl_set _ _ _ (by omega)] at r6
  have E6 := E5.setCell (p := ⟨gb, 1, none⟩) hgw (.int .u8 1)
  have B6 := B5.setCell (p := ⟨gb, 1, none⟩) (Nat.le_refl _) (.int .u8 1)
  have c2 := r6.cell (i := 2) (by rw [bl_len]; omega)
  have f2 := r6.frozen 2
  have r7 := r6.set (i := 2) (by rw [bl_len]; omega) (UInt8.ofNat 1) (1 : Int) (by decide)
  rw [bl_set _ _ _ (by omega)] at r7
  have E7 := E6.setCell (p := ⟨gb, 2, none⟩) hgw (.int .u8 1)
  have B7 := B6.setCell (p := ⟨gb, 2, none⟩) (Nat.le_refl _) (.int .u8 1)
  have hD : ∀ j, upd (upd (upd (fun _ => 0) 0 1) 1 1) 2 1 j ≤ 255 := upd_le (upd_le (upd_le (fun _ => Nat.zero_le _) (by decide)) (by decide)) (by decide)
  generalize upd (upd (upd (fun _ => 0) 0 1) 1 1) 2 1 = D0 at *
  clear r4 r5 r6 E4 E5 E6 B5 B6 b4'
  go_wp2_with (fail)
  generalize ((w4.setCell ⟨gb, 0, none⟩ (.int .u8 1)).setCell ⟨gb, 1, none⟩ (.int .u8 1)).setCell ⟨gb, 2, none⟩ (.int .u8 1) = w7 at *
  clear hmk c0 c1 c2 f0 f1 f2
  go_loopw [13] (fun i wr => ∃ (k : Nat) (D : Nat → Nat), k ≤ raw.length ∧ i = .int .i64 (k : Int) ∧ (∀ j, D j ≤ 255) ∧ Below w.heap.size w wr ∧ Below gb w3 wr ∧ BRow wr gb (bl D)) (fun i _ => raw.length - (intOf i).toNat)
  case atStart => exact ⟨0, D0, by omega, rfl, hD, E7, B7, r7⟩
  case round =>
    obtain ⟨k, D, hk, rfl, hD', hB, hG, hRw⟩ := hrel
    rename World => wr
    by_cases hc : k < raw.length ∧ k < 300
    · obtain ⟨h1, h2⟩ := hc
      obtain ⟨nb, no, rfl, hnb, hcell⟩ := cell k h1
      have y1 : (k : Int) < (raw.length : Int) := by omega
      have y2 : (k : Int) < 300 := by omega
      have d0 : wr.cell? ⟨nb, no + k, none⟩ = some (.int .i64 (raw.getD k 0)) := by rw [hB.cell (p := ⟨nb, no + k, none⟩) hnb]; exact hcell
      have hrk := hr k h1
      have hpk := pk_rng (raw.getD k 0) 61440 (by decide)
      obtain ⟨c, hcq⟩ := Int.eq_ofNat_of_zero_le hpk.1
      have cP := fun W => pick_any (raw.getD k 0) 61440 W hrk.1 hrk.2 (by decide) (by decide)
      rw [hcq] at cP
      have hc6 : c < 61440 := by omega
      obtain ⟨q, hq⟩ : ∃ q, q = c / 256 := ⟨_, rfl⟩
      have hq240 : q < 240 := by omega
      have t1 : (c : Int) / 256 = (q : Int) := by omega
      have t2 : (q : Int) < 240 := by omega
      have cc := hRw.cell (i := q) (by rw [bl_len]; omega)
      have cf := hRw.frozen q
      have hset := hRw.set (i := q) (by rw [bl_len]; omega) (UInt8.ofNat (c % 256)) ((c % 256 : Nat) : Int) (byte_nat _ (by omega)).symm
      rw [bl_set _ _ _ hq240] at hset
      have hset' : BRow (wr.setCell ⟨gb, q, none⟩ (.int .u8 (IntKind.u8.wrap (c : Int)))) gb (bl (upd D q (c % 256))) := by
        rw [show IntKind.u8.wrap (c : Int) = ((c % 256 : Nat) : Int) by simp [IntKind.wrap, IntKind.bits, IntKind.signed]]
        exact hset
      have hD2 := upd_le (i := q) hD' (show c % 256 ≤ 255 by omega)
      have hB2 := hB.setCell (p := ⟨gb, q, none⟩) hgw (.int .u8 (IntKind.u8.wrap (c : Int)))
      have hG2 := hG.setCell (p := ⟨gb, q, none⟩) (Nat.le_refl _) (.int .u8 (IntKind.u8.wrap (c : Int)))
      generalize raw.getD k 0 = rk at *
      generalize (bl D).getD q 0 = old at *
      clear hset hpk hcq hrk hq
      go_wp2_with (fail)
      refine (cP _).mono ?_
      rintro e w' ⟨rfl, rfl⟩
      go_wp2_with (fail)
      go_roundw
      case rel => exact ⟨k + 1, _, by omega, by go_num, hD2, by first | exact hB2 | simpa using hB2, by first | exact hG2 | simpa using hG2, by first | exact hset' | simpa using hset'⟩
      case measure => simp [intOf]; omega
    · have hexit : ¬ k < raw.length ∨ (k < raw.length ∧ ¬ k < 300) := by omega
      clear hc
      have hk1 : ∀ W, BRow W gb (bl D) → (convert 48 9 (.slice (some ⟨gb, 0, none⟩) 120 240)).run Try.prog W = .ok (.string (layS D 0)) W ∧ (convert 48 9 (.slice (some ⟨gb, 120, none⟩) 120 120)).run Try.prog W = .ok (.string (layS D 120)) W := fun W hW => ⟨row_conv hW hD' 0 240 (by omega), row_conv hW hD' 120 120 (by omega)⟩
      have j1 := half_lo gb
      have j2 := half_hi gb
      have z1 := layS_size' D 0
      have z2 := layS_size' D 120
      have hBs := hB.size
      have hGs := hG.size
      obtain ⟨s1, hs1⟩ : ∃ s1, layS D 0 = s1 := ⟨_, rfl⟩
      obtain ⟨s2, hs2⟩ : ∃ s2, layS D 120 = s2 := ⟨_, rfl⟩
      rw [hs1] at hk1 z1
      rw [hs2] at hk1 z2
      clear hs1 hs2
      rcases hexit with hx | ⟨hx, hx2⟩
      · have y1 : decide (k < raw.length) = false := by rw [decide_eq_false_iff_not]; exact hx
        go_wp2_with (fail)
        go_region_held3 (fun W => (convert 48 9 (.slice (some ⟨gb, 0, none⟩) 120 240)).run Try.prog W = .ok (.string s1) W ∧ (convert 48 9 (.slice (some ⟨gb, 120, none⟩) 120 120)).run Try.prog W = .ok (.string s2) W) (first | exact hk1 _ hRw.drew | exact hk1 _ (hRw.drew.alloc _) | exact hk1 _ hRw) (fail)
        all_goals
          have hGd : Below w3.heap.size w3 wr := by rw [HG.out]; exact hG
          have T8 : TOr (wr.alloc (.cells #[.string s1, .string s2] 9)).drew u2 o1 := T3.below (hGd.alloc hGd.size _).drew
          have U8 : ROr (wr.alloc (.cells #[.string s1, .string s2] 9)).drew u3 o1 := t3.below (hGd.alloc hGd.size _).drew
          have E8 : Below w.heap.size w (wr.alloc (.cells #[.string s1, .string s2] 9)).drew := (hB.alloc hBs _).drew
          have R8 : Reads (wr.alloc (.cells #[.string s1, .string s2] 9)).drew (.slice (some ⟨wr.heap.size, 0, none⟩) 2 2) ([s1, s2].map .string) := by
            refine .inr ⟨wr.heap.size, 0, 2, rfl, by show wr.heap.size < (wr.alloc _).heap.size; simp, fun i hi => ?_⟩
            show (wr.alloc _).cell? ⟨wr.heap.size, _, none⟩ = _
            rw [Nat.zero_add, World.cell?_alloc_mark]
            rcases (by simp at hi; omega : i = 0 ∨ i = 1) with rfl | rfl <;> rfl
          have hzz : ∀ s ∈ [s1, s2], s.size ≤ 140737488355328 := fun s hs => by
            simp at hs
            rcases hs with rfl | rfl
            · exact z1
            · exact z2
          go_wp2_with (fail)
          generalize (wr.alloc (.cells #[.string s1, .string s2] 9)).drew = w8 at *
          generalize wr.heap.size = gx at *
          refine (of_all b _ [s1, s2] w8 R8 hzz).mono ?_
          rintro e w9 ⟨u9, rfl, b9, t9⟩
          have T9 := T8.below b9
          have U9 := U8.below b9
          have R9 := R8.below b9
          have E9 := below_e E8 b9
          clear T8 U8 R8 E8
          go_wp2_with (fail)
          refine (rof_all b _ [s1, s2] w9 R9 hzz).mono ?_
          rintro e wA ⟨uA, rfl, bA, tA⟩
          have TA := T9.below bA
          have UA := U9.below bA
          have XA := t9.below bA
          have EA := below_e E9 bA
          clear T9 U9 R9 E9 t9 b9 bA
          generalize tabO b [s1, s2] = o2 at *
          go_wp2_with (fail)
          refine (tsame_any u2 u3 o1 wA TA UA).mono ?_
          rintro e wB ⟨rfl, bB⟩
          have XB := XA.below bB
          have YB := tA.below bB
          have EB := below_e EA bB
          clear TA UA XA tA EA bB
          go_wp2_with (fail)
          refine (tsame_any u9 uA o2 wB XB YB).mono ?_
          rintro e wC ⟨rfl, bC⟩
          go_wp2_with (fail)
          go_ret
          exact ⟨rfl, below_e EB bC⟩
      · have y1 : (k : Int) < (raw.length : Int) := by omega
        have y2 : decide ((k : Int) < 300) = false := by rw [decide_eq_false_iff_not]; omega
        go_wp2_with (fail)
        go_region_held3 (fun W => (convert 48 9 (.slice (some ⟨gb, 0, none⟩) 120 240)).run Try.prog W = .ok (.string s1) W ∧ (convert 48 9 (.slice (some ⟨gb, 120, none⟩) 120 120)).run Try.prog W = .ok (.string s2) W) (first | exact hk1 _ hRw.drew | exact hk1 _ (hRw.drew.alloc _) | exact hk1 _ hRw) (fail)
        all_goals
          have hGd : Below w3.heap.size w3 wr := by rw [HG.out]; exact hG
          have T8 : TOr (wr.alloc (.cells #[.string s1, .string s2] 9)).drew u2 o1 := T3.below (hGd.alloc hGd.size _).drew
          have U8 : ROr (wr.alloc (.cells #[.string s1, .string s2] 9)).drew u3 o1 := t3.below (hGd.alloc hGd.size _).drew
          have E8 : Below w.heap.size w (wr.alloc (.cells #[.string s1, .string s2] 9)).drew := (hB.alloc hBs _).drew
          have R8 : Reads (wr.alloc (.cells #[.string s1, .string s2] 9)).drew (.slice (some ⟨wr.heap.size, 0, none⟩) 2 2) ([s1, s2].map .string) := by
            refine .inr ⟨wr.heap.size, 0, 2, rfl, by show wr.heap.size < (wr.alloc _).heap.size; simp, fun i hi => ?_⟩
            show (wr.alloc _).cell? ⟨wr.heap.size, _, none⟩ = _
            rw [Nat.zero_add, World.cell?_alloc_mark]
            rcases (by simp at hi; omega : i = 0 ∨ i = 1) with rfl | rfl <;> rfl
          have hzz : ∀ s ∈ [s1, s2], s.size ≤ 140737488355328 := fun s hs => by
            simp at hs
            rcases hs with rfl | rfl
            · exact z1
            · exact z2
          go_wp2_with (fail)
          generalize (wr.alloc (.cells #[.string s1, .string s2] 9)).drew = w8 at *
          generalize wr.heap.size = gx at *
          refine (of_all b _ [s1, s2] w8 R8 hzz).mono ?_
          rintro e w9 ⟨u9, rfl, b9, t9⟩
          have T9 := T8.below b9
          have U9 := U8.below b9
          have R9 := R8.below b9
          have E9 := below_e E8 b9
          clear T8 U8 R8 E8
          go_wp2_with (fail)
          refine (rof_all b _ [s1, s2] w9 R9 hzz).mono ?_
          rintro e wA ⟨uA, rfl, bA, tA⟩
          have TA := T9.below bA
          have UA := U9.below bA
          have XA := t9.below bA
          have EA := below_e E9 bA
          clear T9 U9 R9 E9 t9 b9 bA
          generalize tabO b [s1, s2] = o2 at *
          go_wp2_with (fail)
          refine (tsame_any u2 u3 o1 wA TA UA).mono ?_
          rintro e wB ⟨rfl, bB⟩
          have XB := XA.below bB
          have YB := tA.below bB
          have EB := below_e EA bB
          clear TA UA XA tA EA bB
          go_wp2_with (fail)
          refine (tsame_any u9 uA o2 wB XB YB).mono ?_
          rintro e wC ⟨rfl, bC⟩
          go_wp2_with (fail)
          go_ret
          exact ⟨rfl, below_e EB bC⟩
end Go.Proofs.Ytbfdjlibhinkiaa
