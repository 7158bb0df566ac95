/- journal: what a bay of a slot holds; Tells. -/
import Derived.Test.YtfadglcpapiklaaGreatDoorJrnLst
import Derived.Test.YtfadglcpapiklaaGreatDoorLrecb
namespace Go.Proofs.YtfadglcpapiklaaGreatDoor
open Go.RowKit
open Rc
set_option linter.unusedVariables false
set_option linter.unusedSimpArgs false
set_option maxRecDepth 100000

section
variable {P : Program} {ops : Array Oper} {o : Oper} {a : Act} {w w' : World} {K : Act → World → Prop} {Q : Exit → Act → World → Prop} {E : Prop}
theorem step_buildN_run {S : TypeId} {m : Nat} {vals : Array (Nat × Value)} {v : Value} (hr : (Instr.buildSlice S m vals).run P w = .ok v w') (parts : Array (Nat × Operand)) (hg : o.guard = none) (hop : o.op = .buildSlice S m parts) (hx : (parts.map fun (i, x) => (i, a.eval x)) = vals) {d : Option Tmp} (hd : o.dst = d) (hK : K (a.put d v) w') :
    if Region.wanted o (yielded ops a.tmps) = true then Oper.wp P o a w K Q else E := by
  have hw : Region.wanted o (yielded ops a.tmps) = true := by simp [Region.wanted, hg]
  rw [if_pos hw]
  subst hd
  unfold Oper.wp execOp
  simp only [hop, hx, Sem.run_bind, Sem.run_pure, hr, Result.andThen_ok]
  exact hK
end
theorem two_ints (x y : Int) (W : World) : (Instr.buildSlice 24 2 #[(0, .int .i64 x), (1, .int .i64 y)]).run Tryz.prog W = .ok (.slice (some ⟨W.heap.size, 0, none⟩) 2 2) (W.alloc (.cells #[.int .i64 x, .int .i64 y] 3)) := by kernel_rfl
theorem own_row2 (W : World) (x y : Int) {B : Nat} (hB : B ≤ W.heap.size) : Own (W.alloc (.cells #[.int .i64 x, .int .i64 y] 3)) B 3 (.slice (some ⟨W.heap.size, 0, none⟩) 2 2) ([x, y].map (.int .i64)) :=
  ⟨⟨rfl, .inr ⟨W.heap.size, 2, _, rfl, hB, heap_alloc_new _ _, Nat.le_refl _, by unfold maxLen; omega, rfl, rfl⟩⟩⟩
theorem row_one (W : World) (x : Int) : Reads (W.alloc (.cells #[.int .i64 x] 3)) (.slice (some ⟨W.heap.size, 0, none⟩) 1 1) ([x].map (.int .i64)) :=
  .inr ⟨W.heap.size, 0, 1, rfl, by simp, fun i hi => by
    obtain rfl : i = 0 := by simpa using hi
    exact heap_cell (heap_alloc_new _ _) rfl⟩
set_option maxHeartbeats 1000000 in
theorem bays_any (gK gM gB : Int) (w : World) : Calls Tryz.prog 58 #[.agg #[.int .i64 gK, .int .i64 gM, .int .i64 gB]] w fun e w' => ∃ v, e = .returned v ∧ Own w' w.heap.size 3 v ([gHead gK gM gB 0, gHead gK gM gB 1].map (.int .i64)) ∧ Below w.heap.size w w' := by
  obtain ⟨W0, hW0⟩ : ∃ W0, W0 = w.alloc (.cells #[.int .i64 gK, .int .i64 gM, .int .i64 gB] 23) := ⟨_, rfl⟩
  obtain ⟨p, hp⟩ : ∃ p, w.heap.size = p := ⟨_, rfl⟩
  have hb0 : Below w.heap.size w W0 := by rw [hW0]; exact (Below.refl _ _).alloc (Nat.le_refl _) _
  have hg : W0.heap[p]? = some (.cells #[.int .i64 gK, .int .i64 gM, .int .i64 gB] 23 (0, 0)) := by rw [hW0, ← hp]; exact heap_alloc_new _ _
  have hpl := (Array.getElem?_eq_some_iff.1 hg).1
  have hS0 : W0.drew.heap[p]? = some (.cells #[.int .i64 gK, .int .i64 gM, .int .i64 gB] 23 (0, 0)) := hg
  have HF : Hid (∀ w3, Below W0.drew.heap.size W0.drew w3 → (w3.alloc (.cells #[.int .i64 (gHead gK gM gB 0), .int .i64 (gHead gK gM gB 1)] 3)).heap[p]? = some (.cells #[.int .i64 gK, .int .i64 gM, .int .i64 gB] 23 (0, 0)) ∧ Own (w3.alloc (.cells #[.int .i64 (gHead gK gM gB 0), .int .i64 (gHead gK gM gB 1)] 3)) w.heap.size 3 (.slice (some ⟨w3.heap.size, 0, none⟩) 2 2) ([gHead gK gM gB 0, gHead gK gM gB 1].map (.int .i64)) ∧ Below w.heap.size w (w3.alloc (.cells #[.int .i64 (gHead gK gM gB 0), .int .i64 (gHead gK gM gB 1)] 3))) := Lib.hid fun w3 b3 => by
    have b03 := hb0.trans (((Below.drewZ W0).trans b3).mono hb0.size)
    have ba := (Below.refl w3.heap.size w3).alloc (Nat.le_refl _) (.cells #[.int .i64 (gHead gK gM gB 0), .int .i64 (gHead gK gM gB 1)] 3)
    exact ⟨(ba.block p (Nat.lt_of_lt_of_le hpl b3.size)).trans ((b3.block p hpl).trans hg), own_row2 w3 _ _ b03.size, b03.trans (ba.mono b03.size)⟩
  clear hg
  go_enter Tryz.func58, Tryz.ntmps58
  go_upto_region 1 with (fail)
  rw [show w.alloc (.cells #[.int .i64 gK, .int .i64 gM, .int .i64 gB] 23) = W0 from hW0.symm]
  clear hW0 hp hb0
  refine wp_region_held_drew (S := fun W => W.heap[p]? = some (.cells #[.int .i64 gK, .int .i64 gM, .int .i64 gB] 23 (0, 0))) (by kernel_rfl) (hS0) (fun hHeld => ?_)
  refine wpAnyH_takeD (i := 0) (v := .agg #[.int .i64 gK, .int .i64 gM, .int .i64 gB]) (some 3) rfl (by kernel_rfl) (by kernel_rfl) (by kernel_rfl) rfl (fun _ _ _ h => h) (yieldsIf_load_run (by rfl) _ rfl rfl (fun _ hs => geo_load hs)) (by assumption) ?_
  simp only [Act.put, List.setIfInBounds_toArray, List.set_cons_zero, List.set_cons_succ]
  refine wpAnyH_takeD (i := 2) (v := .agg #[.int .i64 gK, .int .i64 gM, .int .i64 gB]) (some 5) rfl (by kernel_rfl) (by kernel_rfl) (by kernel_rfl) rfl (fun _ _ _ h => h) (yieldsIf_load_run (by rfl) _ rfl rfl (fun _ hs => geo_load hs)) (by assumption) ?_
  simp only [Act.put, List.setIfInBounds_toArray, List.set_cons_zero, List.set_cons_succ]
  refine wpAnyH_ready (rs := [1]) (by kernel_rfl) (by simp) ?_
  refine AllReadyH.cons rfl (fun K hK => ?_) AllReadyH.nil
  go_simp
  refine (head_any gK gM gB 0 W0.drew (by decide)).mono ?_
  rintro e w2 ⟨rfl, b2⟩
  have hS2 := (b2.block p hpl).trans hS0
  refine hK.out _ _ hS2 (fun hHeld => ?_)
  clear hK
  try simp only [Act.put, List.setIfInBounds_toArray, List.set_cons_zero, List.set_cons_succ]
  refine wpAnyH_ready (rs := [3]) (by kernel_rfl) (by simp) ?_
  refine AllReadyH.cons rfl (fun K hK => ?_) AllReadyH.nil
  go_simp
  refine (head_any gK gM gB 1 w2 (by decide)).mono ?_
  rintro e w3 ⟨rfl, b3⟩
  have hS3 := (b3.block p (Nat.lt_of_lt_of_le hpl b2.size)).trans hS2
  have hfin := HF.out w3 (b2.trans (b3.mono b2.size))
  refine hK.out _ _ hS3 (fun hHeld => ?_)
  clear hK
  try simp only [Act.put, List.setIfInBounds_toArray, List.set_cons_zero, List.set_cons_succ]
  refine wpAnyH_ready (rs := [4]) (by kernel_rfl) (by simp) ?_
  refine AllReadyH.cons rfl (fun K hK => ?_) AllReadyH.nil
  refine step_buildN_run (d := some 7) (two_ints (gHead gK gM gB 0) (gHead gK gM gB 1) w3) _ rfl rfl (by simp [Act.eval]) rfl ?_
  refine hK.out _ _ hfin.1 (fun hHeld => ?_)
  clear hK
  try simp only [Act.put, List.setIfInBounds_toArray, List.set_cons_zero, List.set_cons_succ]
  refine wpAnyH_takeD (i := 5) (some 2) rfl (by kernel_rfl) (by kernel_rfl) (by kernel_rfl) rfl (fun _ _ _ h => h) (Or.inl ⟨by rfl, by rintro w hs1; first | rfl | (go_simp; done) | (go_simp; rfl)⟩) (by assumption) ?_
  simp only [Act.put, List.setIfInBounds_toArray, List.set_cons_zero, List.set_cons_succ]
  refine wpAnyH_done (by kernel_rfl) ?_ _
  clear hHeld
  go_wp2_with (fail)
  go_ret
  exact ⟨_, rfl, hfin.2.1, hfin.2.2⟩
theorem sr_size (n : Nat) (R : Rk) (id slot at_ : Int) : (srS n R id slot at_).size ≤ 120 := by
  unfold srS openS
  split
  · split
    · simp only [ByteArray.size_extract]; omega
    · decide
  · decide
/-- The body's sectors of a bay: whether they open, what they hold; how many there are. -/
def lkB (n : Nat) (R : Rk) (id slot a : Int) (i : Nat) : Bool := srB n R id slot (a + 1 + (i : Int))
def lkT (n : Nat) (R : Rk) (id slot a : Int) (i : Nat) : ByteArray := srS n R id slot (a + 1 + (i : Int))
def lkC (K : Int) (h : ByteArray) : Nat := (hdS h).length * K.toNat
/-- What a bay of a slot holds. -/
def lkM (n : Nat) (R : Rk) (id K M B slot a : Int) : ByteArray × List ByteArray × Bool :=
  if srB n R id slot a = true then
    (if headB K M B (srS n R id slot a) = true ∧ gHead K M B (hdQ (srS n R id slot a)) = a then
      (if ∀ i, i < lkC K (srS n R id slot a) → lkB n R id slot a i = true then (srS n R id slot a, (List.range (lkC K (srS n R id slot a))).map (lkT n R id slot a), true) else (⟨#[]⟩, [], false))
    else (⟨#[]⟩, [], true))
  else (⟨#[]⟩, [], false)
def LookTo (w : World) (x : ByteArray × List ByteArray × Bool) (e : Ending) (w' : World) : Prop := ∃ v, e = .returned (.tuple #[.string x.1, v, .bool x.2.2]) ∧ Own w' w.heap.size 9 v (tx x.2.1) ∧ Below w.heap.size w w'
theorem lkC_int {K M B : Int} {h : ByteArray} (ht : headB K M B h = true) : ((hdS h).length : Int) * K = (lkC K h : Int) ∧ lkC K h ≤ 64 := by
  obtain ⟨hK, hn⟩ := headB_K ht
  obtain ⟨k, hk⟩ := Int.eq_ofNat_of_zero_le (show 0 ≤ K by omega)
  unfold lkC
  rw [hk, Int.toNat_natCast]
  refine ⟨by rw [Int.natCast_mul], ?_⟩
  have : (hdS h).length * k ≤ 16 * 4 := Nat.mul_le_mul hn.2 (by omega)
  omega
section
variable {w w1 : World} {S : Nat → Prop} {k n : Nat} {R : Rk}
set_option maxHeartbeats 4000000 in
theorem look_any (h : RA w S w1 k n R) (hk : ROk n R 1000000000000) (id K M B slot a : Int) (ha : 0 ≤ a ∧ a ≤ 100) :
    Calls Tryz.prog 59 #[.pointer (some ⟨k, 0, none⟩), .int .i64 id, .agg #[.int .i64 K, .int .i64 M, .int .i64 B], .int .i64 slot, .int .i64 a] w1 (LookTo w1 (lkM n R id K M B slot a)) := by
  obtain ⟨W0, hW0⟩ : ∃ W0, W0 = w1.alloc (.cells #[.int .i64 K, .int .i64 M, .int .i64 B] 23) := ⟨_, rfl⟩
  obtain ⟨p, hp⟩ : ∃ p, w1.heap.size = p := ⟨_, rfl⟩
  have hb0 : Below w1.heap.size w1 W0 := by rw [hW0]; exact (Below.refl _ _).alloc (Nat.le_refl _) _
  have hg : W0.heap[p]? = some (.cells #[.int .i64 K, .int .i64 M, .int .i64 B] 23 (0, 0)) := by rw [hW0, ← hp]; exact heap_alloc_new _ _
  have hpl := (Array.getElem?_eq_some_iff.1 hg).1
  have CR : Hid (∀ W at_, Below w1.heap.size w1 W → Calls Tryz.prog 94 #[.pointer (some ⟨k, 0, none⟩), .int .i64 id, .int .i64 slot, .int .i64 at_] W (TellsB W (srS n R id slot at_) (srB n R id slot at_))) := Lib.hid fun W at_ hW => sr_any (h.after hW) hk id slot at_
  have cR := CR.out W0 a hb0
  have BX : Hid (∀ W, Below W0.heap.size W0 W → W.cell? ⟨p, 0, none⟩ = some (.int .i64 K) ∧ W.cell? ⟨p, 1, none⟩ = some (.int .i64 M) ∧ W.cell? ⟨p, 2, none⟩ = some (.int .i64 B)) := Lib.hid fun W hW => by
    have e := (hW.block p hpl).trans hg
    exact ⟨heap_cell e rfl, heap_cell e rfl, heap_cell e rfl⟩
  have HB0 := Lib.hid hb0
  obtain ⟨X, hX⟩ : ∃ X, lkM n R id K M B slot a = X := ⟨_, rfl⟩
  rw [hX]
  have HX := Lib.hid hX
  clear hX hg hpl hb0 h hk
  obtain ⟨s, hs⟩ : ∃ s, srS n R id slot a = s := ⟨_, rfl⟩
  have hsz := sr_size n R id slot a
  rw [hs] at cR hsz
  unfold lkM at HX
  rw [hs] at HX
  clear hs
  by_cases hok : srB n R id slot a = true
  · rw [hok] at cR HX
    rw [if_pos rfl] at HX
    have cH := fun W => head11_any K M B s W (by omega)
    by_cases hhd : headB K M B s = true
    · obtain ⟨hci, hcl⟩ := lkC_int hhd
      have cH2 : Hid (∀ W, Calls Tryz.prog 95 #[.agg #[.int .i64 K, .int .i64 M, .int .i64 B], .string s] W fun e w' => e = .returned (.tuple #[.int .i64 (hdQ s), .int .i64 (lkC K s : Int), .int .i64 0]) ∧ Below W.heap.size W w') := Lib.hid fun W => by
        have := cH W
        unfold GivesH at this
        simp only [hhd, if_true, hci] at this
        exact this
      have hqr := hdQ_rng s
      have cQ : Hid (∀ W, Calls Tryz.prog 45 #[.agg #[.int .i64 K, .int .i64 M, .int .i64 B], .int .i64 (hdQ s)] W fun e w' => e = .returned (.int .i64 (gHead K M B (hdQ s))) ∧ Below W.heap.size W w') := Lib.hid fun W => head_any K M B _ W (by omega)
      by_cases hq : gHead K M B (hdQ s) = a
      · rw [if_pos ⟨hhd, hq⟩] at HX
        rw [hq] at cQ
        obtain ⟨c, hc⟩ : ∃ c, lkC K s = c := ⟨_, rfl⟩
        rw [hc] at hcl cH2 HX
        clear hci hhd hq cH hqr hc
        go_enter Tryz.func59, Tryz.ntmps59
        go_wp2_with (fail)
        rw [show w1.alloc (.cells #[.int .i64 K, .int .i64 M, .int .i64 B] 23) = W0 from hW0.symm]
        clear hW0 hp
        refine cR.mono ?_
        rintro e w2 ⟨rfl, b2⟩
        obtain ⟨y1, y2, y3⟩ := BX.out w2 b2
        clear cR
        go_wp2_with (fail)
        refine (cH2.out w2).mono ?_
        rintro e w3 ⟨rfl, b3⟩
        clear y1 y2 y3
        obtain ⟨y1, y2, y3⟩ := BX.out w3 (b2.trans (b3.mono b2.size))
        go_wp2_with (fail)
        refine (cQ.out w3).mono ?_
        rintro e w4 ⟨rfl, b4⟩
        have te : (a != a) = false := bne_self_eq_false _
        have HB4 : Hid (Below w1.heap.size w1 w4) := Lib.hid (HB0.out.trans ((b2.trans ((b3.trans (b4.mono b3.size)).mono b2.size)).mono HB0.out.size))
        clear y1 y2 y3 cH2 cQ b2 b3 b4 BX HB0
        obtain ⟨i0, q1, q2, q3, q4⟩ := info_parts Tryz.infoS
        go_wp2_with (fail)
        go_loopw [18, 19, 20, 21, 49] (fun u _ _ _ t wr => ∃ (i : Nat) (ua : Option Addr) (uc : Nat), i ≤ c ∧ t = .int .i64 (i : Int) ∧ u = .slice ua i uc ∧ Hid (Own wr w1.heap.size 9 u (tx ((List.range i).map (lkT n R id slot a))) ∧ (∀ j, j < i → lkB n R id slot a j = true) ∧ Below w1.heap.size w1 wr)) (fun _ _ _ _ t _ => c - (RowKit.intOf t).toNat)
        case atStart => exact ⟨0, none, 0, Nat.zero_le _, rfl, rfl, Lib.hid ⟨Own.nil _ _ _, fun j hj => absurd hj (Nat.not_lt_zero _), HB4.out⟩⟩
        case round =>
          clear HB4
          obtain ⟨i, ua, uc, hi, rfl, rfl, hH⟩ := hrel
          rename World => wr
          by_cases hlt : i < c
          · have y1 : (i : Int) < (c : Int) := by omega
            have cr := CR.out wr (a + 1 + (i : Int)) hH.out.2.2
            by_cases hb : srB n R id slot (a + 1 + (i : Int)) = true
            · rw [hb] at cr
              have HL : Hid (lkB n R id slot a i = true) := Lib.hid hb
              clear hb
              obtain ⟨s2, hs2⟩ : ∃ s2, srS n R id slot (a + 1 + (i : Int)) = s2 := ⟨_, rfl⟩
              rw [hs2] at cr
              have HS2 : Hid (lkT n R id slot a i = s2) := Lib.hid hs2
              clear hs2
              go_wp2_with (fail)
              refine cr.mono ?_
              rintro e w5 ⟨rfl, b5⟩
              have o5 := hH.out.1.after b5
              obtain ⟨v6, w6, hap, o6, b6⟩ := o5.push (P := Tryz.prog) (T := 54) Tryz.underlying54 q1 q2 q3 q4 rfl (.string s2) rfl (Nat.le_trans hH.out.2.2.size b5.size) (by simp; omega) (by simp; omega)
              obtain ⟨xa, xc, hf6⟩ := o6.reads.form
              rw [show (tx ((List.range i).map (lkT n R id slot a)) ++ [Value.string s2]).length = i + 1 by simp] at hf6
              subst hf6
              have e6 : tx ((List.range i).map (lkT n R id slot a)) ++ [Value.string s2] = tx ((List.range (i + 1)).map (lkT n R id slot a)) := by
                rw [List.range_succ]; simp [tx, HS2.out]
              rw [e6] at o6
              have HN : Hid (Own w6 w1.heap.size 9 (.slice xa (i + 1) xc) (tx ((List.range (i + 1)).map (lkT n R id slot a))) ∧ (∀ j, j < i + 1 → lkB n R id slot a j = true) ∧ Below w1.heap.size w1 w6) := Lib.hid ⟨o6, fun j hj => by
                rcases (by omega : j < i ∨ j = i) with z | z
                · exact hH.out.2.1 j z
                · rw [z]; exact HL.out, (hH.out.2.2.trans (b5.mono hH.out.2.2.size)).trans b6⟩
              clear o5 o6 b6 b5 cr hH e6
              go_wp2_with (at_builtin; refine wpList_append_run hap _ _ rfl rfl rfl rfl rfl ?_)
              go_roundw
              case rel => exact ⟨i + 1, xa, xc, by omega, by go_num, rfl, HN.out⟩
              case measure => simp [RowKit.intOf]; omega
            · have HL : Hid (¬ ∀ j, j < c → lkB n R id slot a j = true) := Lib.hid fun z => hb (z i hlt)
              rw [Bool.not_eq_true] at hb
              rw [hb] at cr
              have HXX : Hid (X = (⟨#[]⟩, [], false)) := Lib.hid (by rw [← HX.out, if_neg HL.out])
              have HB := Lib.hid hH.out.2.2
              clear hb hH HX HL
              generalize srS n R id slot (a + 1 + (i : Int)) = s2 at *
              go_wp2_with (fail)
              refine cr.mono ?_
              rintro e w5 ⟨rfl, b5⟩
              have hfin := Lib.hid (HB.out.trans (b5.mono HB.out.size))
              clear cr b5
              go_wp2_with (fail)
              go_ret3
              rw [HXX.out]
              exact ⟨_, rfl, Own.nil _ _ _, hfin.out⟩
          · obtain rfl : i = c := by omega
            have y1 : ¬ ((i : Int) < (i : Int)) := by omega
            have HXX : Hid (X = (s, (List.range i).map (lkT n R id slot a), true)) := Lib.hid (by rw [← HX.out, if_pos hH.out.2.1])
            clear HX hlt
            go_wp2_with (fail)
            go_ret3
            rw [HXX.out]
            exact ⟨_, rfl, hH.out.1, hH.out.2.2⟩
      · rw [if_neg (fun z => hq z.2)] at HX
        have te : (gHead K M B (hdQ s) != a) = true := by rw [bne_iff_ne]; exact hq
        generalize gHead K M B (hdQ s) = gq at *
        generalize lkC K s = c at *
        clear hci hhd hq cH hqr CR
        go_enter Tryz.func59, Tryz.ntmps59
        go_wp2_with (fail)
        rw [show w1.alloc (.cells #[.int .i64 K, .int .i64 M, .int .i64 B] 23) = W0 from hW0.symm]
        clear hW0 hp
        refine cR.mono ?_
        rintro e w2 ⟨rfl, b2⟩
        obtain ⟨y1, y2, y3⟩ := BX.out w2 b2
        clear cR
        go_wp2_with (fail)
        refine (cH2.out w2).mono ?_
        rintro e w3 ⟨rfl, b3⟩
        clear y1 y2 y3
        obtain ⟨y1, y2, y3⟩ := BX.out w3 (b2.trans (b3.mono b2.size))
        go_wp2_with (fail)
        refine (cQ.out w3).mono ?_
        rintro e w4 ⟨rfl, b4⟩
        have HB4 : Hid (Below w1.heap.size w1 w4) := Lib.hid (HB0.out.trans ((b2.trans ((b3.trans (b4.mono b3.size)).mono b2.size)).mono HB0.out.size))
        clear y1 y2 y3 cH2 cQ b2 b3 b4 BX HB0
        go_wp2_with (fail)
        go_ret3
        rw [← HX.out]
        exact ⟨_, rfl, Own.nil _ _ _, HB4.out⟩
    · rw [if_neg (fun z => hhd z.1)] at HX
      rw [Bool.not_eq_true] at hhd
      have cH2 : Hid (∀ W, Calls Tryz.prog 95 #[.agg #[.int .i64 K, .int .i64 M, .int .i64 B], .string s] W fun e w' => e = .returned (.tuple #[.int .i64 0, .int .i64 0, .int .i64 110]) ∧ Below W.heap.size W w') := Lib.hid fun W => by
        have := cH W
        unfold GivesH at this
        simp only [hhd, Bool.false_eq_true, if_false] at this
        exact this
      clear hhd cH CR
      go_enter Tryz.func59, Tryz.ntmps59
      go_wp2_with (fail)
      rw [show w1.alloc (.cells #[.int .i64 K, .int .i64 M, .int .i64 B] 23) = W0 from hW0.symm]
      clear hW0 hp
      refine cR.mono ?_
      rintro e w2 ⟨rfl, b2⟩
      obtain ⟨y1, y2, y3⟩ := BX.out w2 b2
      clear cR
      go_wp2_with (fail)
      refine (cH2.out w2).mono ?_
      rintro e w3 ⟨rfl, b3⟩
      have HB4 : Hid (Below w1.heap.size w1 w3) := Lib.hid (HB0.out.trans ((b2.trans (b3.mono b2.size)).mono HB0.out.size))
      clear y1 y2 y3 cH2 b2 b3 BX HB0
      go_wp2_with (fail)
      go_ret3
      rw [← HX.out]
      exact ⟨_, rfl, Own.nil _ _ _, HB4.out⟩
  · rw [if_neg hok] at HX
    rw [Bool.not_eq_true] at hok
    rw [hok] at cR
    clear hok CR
    go_enter Tryz.func59, Tryz.ntmps59
    go_wp2_with (fail)
    rw [show w1.alloc (.cells #[.int .i64 K, .int .i64 M, .int .i64 B] 23) = W0 from hW0.symm]
    clear hW0 hp
    refine cR.mono ?_
    rintro e w2 ⟨rfl, b2⟩
    have HB4 : Hid (Below w1.heap.size w1 w2) := Lib.hid (HB0.out.trans (b2.mono HB0.out.size))
    clear cR b2 BX HB0
    go_wp2_with (fail)
    go_ret3
    rw [← HX.out]
    exact ⟨_, rfl, Own.nil _ _ _, HB4.out⟩
end
end Go.Proofs.YtfadglcpapiklaaGreatDoor
