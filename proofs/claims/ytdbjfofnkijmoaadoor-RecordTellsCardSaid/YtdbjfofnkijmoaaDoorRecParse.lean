/- record: parse. -/
import Derived.Test.YtdbjfofnkijmoaaDoorRecBox

import Derived.StillTailTactics
import Derived.Deep.RegionHeld3
import Derived.Deep.RegionLaw
import Derived.IntWalk
import Derived.Deep.Cut
import Derived.RegionTactic
import Derived.Laws.Cover1
namespace Go.Proofs.YtdbjfofnkijmoaaDoor
open Go.RowKit
set_option linter.unusedVariables false
set_option linter.unusedSimpArgs false

open Rc
/-- What a head is taken as. -/
def GivesP (w : World) (K M B : Int) (h : ByteArray) (e : Ending) (w' : World) : Prop :=
  ∃ v, e = .returned (.tuple #[.agg #[.int .i64 (if headB K M B h then hdQ h else 0), v], .int .i64 (if headB K M B h then hdC h else 0), .int .i64 (if headB K M B h then 0 else 110)]) ∧ SFam w' w.heap.size v (if headB K M B h then hdS h else []) ∧ Below w.heap.size w w'
theorem GivesP.bad {w w' : World} {K M B : Int} {h : ByteArray} (hB : headB K M B h = false) (hb : Below w.heap.size w w') : GivesP w K M B h (.returned (.tuple #[.agg #[.int .i64 0, .slice none 0 0], .int .i64 0, .int .i64 110])) w' := by
  refine ⟨.slice none 0 0, ?_, ?_, hb⟩
  · rw [hB]; rfl
  · rw [hB]; exact SFam.nil _ _
theorem GivesP.ok {w w' : World} {K M B : Int} {h : ByteArray} {v : Value} (hB : headB K M B h = true) (hf : SFam w' w.heap.size v (hdS h)) (hb : Below w.heap.size w w') : GivesP w K M B h (.returned (.tuple #[.agg #[.int .i64 (hdQ h), v], .int .i64 (hdC h), .int .i64 0])) w' := by
  refine ⟨v, ?_, ?_, hb⟩
  · rw [hB]; rfl
  · rw [hB]; exact hf
theorem res_parse {tm : Array Value} {W : World} {b : Nat} {q : Int} {v x y : Value} (h : RBx W b q v) (h4 : tm.getD 4 undef = .pointer (some ⟨b, 0, none⟩)) (h5 : tm.getD 5 undef = x) (h6 : tm.getD 6 undef = y) :
    (results Tryd.f30 tm).run Tryd.prog W = .ok (.tuple #[.agg #[.int .i64 q, v], x, y]) W := by
  have h4' : tm[4]?.getD undef = .pointer (some ⟨b, 0, none⟩) := by simpa using h4
  have h5' : tm[5]?.getD undef = x := by simpa using h5
  have h6' : tm[6]?.getD undef = y := by simpa using h6
  simp [results, Tryd.results30, go_sem, h4', h5', h6', h.c0, h.c1]
theorem OwnE.isSlice {α : Type} {E : Enc α} {w : World} {B : Nat} {T : TypeId} {v : Value} {l : List α} (h : OwnE E w B T v l) : ∃ a c, v = .slice a l.length c := by
  rcases h.forms with ⟨rfl, rfl⟩ | ⟨g, c, rfl, _, _⟩
  · exact ⟨_, _, rfl⟩
  · exact ⟨_, _, rfl⟩
theorem bare_ok (q : RS) (k : Nat) : ∀ s ∈ rdS q k, s.d.length ≤ 140737488355328 ∧ ∀ t ∈ s.d, t.size ≤ 140737488355328 := fun s hs => by
  obtain ⟨i, _, rfl⟩ := List.mem_map.1 hs
  exact ⟨Nat.zero_le _, fun t ht => by cases ht⟩
/-- One stripe more, its data nothing. -/
theorem SFam.add {w : World} {B : Nat} {v : Value} {l : List St} (h : SFam w B v l) (n : Int) (hB : B ≤ w.heap.size) (hl : l.length ≤ 1000) :
    ∃ v' w', (Builtin.append_ #[24, 24] 24 #[v, .slice (some ⟨w.heap.size, 0, none⟩) 1 1]).run Tryd.prog (w.alloc (.cells #[.int .i64 n, .slice none 0 0] 52)) = .ok v' w' ∧ SFam w' B v' (l ++ [bare n]) ∧ Below B w w' ∧ KeptBut v w w' := by
  obtain ⟨i, hi, hz, hs, hb⟩ : ∃ i, Tryd.prog.info? 52 = some i ∧ i.zero = some (.agg #[.int .i64 0, .slice none 0 0]) ∧ i.size = 2 ∧ i.bytes = 32 := info_parts (by kernel_rfl)
  obtain ⟨v', w', h1, h2, h3, h4, h5⟩ := h.o.push (P := Tryd.prog) (S := 24) Tryd.underlying24 hi hz hs hb rfl (bare n) #[.int .i64 n, .slice none 0 0] (by show [Value.int .i64 n, .slice none 0 0] = [.int .i64 n, cell1 (.slice none 0 0)]; rw [cell1_slice]) hB (by omega) (by omega)
  refine ⟨v', w', h1, ?_, h3, h4⟩
  exact h.push (C := w.heap.size) (Nat.le_refl _) (Own.nil _ _ _) h (Nat.le_refl _) h2 h4 h5 hB
theorem step_append_run {P : Program} {ops : Array Oper} {o : Oper} {a : Act} {w : World} {K : Act → World → Prop} {Q : Exit → Act → World → Prop} {E : Prop} {t ty : TypeId} {v xv v' : Value} {w' : World}
    (hr : (Builtin.append_ #[t, t] ty #[v, xv]).run P w = .ok v' w') (s x : Operand) (hg : o.guard = none) (hop : o.op = Op.call { callee := Callee.builtin Builtin.append, args := #[s, x], argTypes := #[t, t] })
    (hty : o.type = ty) (hs : a.eval s = v) (hx : a.eval x = xv) (hK : K (a.put o.dst v') w') : if Region.wanted o (yielded ops a.tmps) = true then Oper.wp P o a w K Q else E := by
  have hw : Region.wanted o (yielded ops a.tmps) = true := by simp [Region.wanted, hg]
  rw [if_pos hw]
  subst hty
  unfold Oper.wp
  simp [execOp, hop, resolve, invoke, builtin, hs, hx, hr, Result.andThen]
  exact hK
/-- What holds ahead of round k. -/
structure PIn (w : World) (p x : Nat) (K M B : Int) (h : ByteArray) (k : Nat) (wr : World) (v : Value) : Prop where
  g : GBx wr p K M B
  z : RBx wr (p + 1) 0 (.slice none 0 0)
  r : RdAt wr (p + 1 + 1) (rdTo (hd3 h) k).s (rdTo (hd3 h) k).b
  o : RBx wr x (hdQ h) v
  f : SFam wr (x + 1) v (rdS (hd3 h) k)
  b : Below p w wr
  hx : p + 3 ≤ x
set_option maxRecDepth 100000 in
set_option maxHeartbeats 4000000 in
theorem parse_any (K M B : Int) (h : ByteArray) (w : World) (hs : h.size ≤ 140737488355328) :
    Calls Tryd.prog 30 #[.agg #[.int .i64 K, .int .i64 M, .int .i64 B], .string h] w (GivesP w K M B h) := by
  obtain ⟨p, hp⟩ : ∃ p, w.heap.size = p := ⟨_, rfl⟩
  have tq := mark_eq h
  go_enter Tryd.func30, Tryd.ntmps30
  go_wp2_with (fail)
  refine (new_any h _).mono ?_
  rintro e w1 ⟨rfl, rfl⟩
  have g0 := GBx.made w K M B 23
  have b0 : Below p w (w.alloc (.cells #[.int .i64 K, .int .i64 M, .int .i64 B] 23)) := (Below.refl _ _).alloc (by omega) _
  have s0 : (w.alloc (.cells #[.int .i64 K, .int .i64 M, .int .i64 B] 23)).heap.size = p + 1 := by simp [hp]
  rw [hp] at g0
  replace hp := Lib.hid hp
  generalize w.alloc (.cells #[.int .i64 K, .int .i64 M, .int .i64 B] 23) = wa at *
  have z1 := RBx.made wa 0 (.slice none 0 0) 26
  have bb : Below (p + 1) wa (wa.alloc (.cells #[.int .i64 0, .slice none 0 0] 26)) := (Below.refl _ _).alloc (by omega) _
  have s1 : (wa.alloc (.cells #[.int .i64 0, .slice none 0 0] 26)).heap.size = p + 1 + 1 := by simp [s0]
  rw [s0] at z1
  have g1 := g0.below bb (by omega)
  have b1 := b0.trans (bb.mono (by omega))
  clear s0 bb g0 b0
  generalize wa.alloc (.cells #[.int .i64 0, .slice none 0 0] 26) = wb at *
  have r2 := RdAt.made wb h 88
  have bb : Below (p + 1 + 1) wb (wb.alloc (.cells #[.string h, .bool false] 88)) := (Below.refl _ _).alloc (by omega) _
  have s2 : (wb.alloc (.cells #[.string h, .bool false] 88)).heap.size = p + 1 + 1 + 1 := by simp [s1]
  rw [s1] at r2
  have g2 := g1.below bb (by omega)
  have z2 := z1.below bb (by omega)
  have b2 := b1.trans (bb.mono (by omega))
  clear bb g1 z1 b1
  go_wp2_with (fail)
  generalize wb.alloc (.cells #[.string h, .bool false] 88) = w2 at *
  clear s1
  refine (rdtxt_q (p + 1 + 1) ⟨h, false⟩ 4 _ r2 hs).mono ?_
  rintro e w3 ⟨rfl, r3⟩
  have g3 := g2.rd r3 (by omega)
  have z3 := z2.rd r3 (by omega)
  have b3 := b2.trans (r3.keep p (by omega) (by omega))
  have R3 := r3.r
  have s3 := r3.size
  clear g2 z2 b2 r2 r3
  rw [s2] at s3
  clear s2
  have hq1 : (hd1 h).s.size ≤ 140737488355328 := Nat.le_trans (rTxtR_size _ _) hs
  change RdAt w3 (p + 1 + 1) (hd1 h).s (hd1 h).b at R3
  by_cases hm : hdW h = markS
  · rw [decide_eq_true hm] at tq
    have tq2 : ((rTxt ⟨h, false⟩ 4).toList != [74, 82, 78, 49]) = false := by rw [bne, tq]; rfl
    go_wp2_with (fail)
    refine (rdnum_q (p + 1 + 1) (hd1 h) 6 w3 R3 hq1).mono ?_
    rintro e w4 ⟨rfl, r4⟩
    have g4 := g3.rd r4 (by omega)
    have z4 := z3.rd r4 (by omega)
    have b4 := b3.trans (r4.keep p (by omega) (by omega))
    have R4 := r4.r
    have s4 := r4.size
    have hq2 : (hd2 h).s.size ≤ 140737488355328 := Nat.le_trans (rNumR_size _ _) hq1
    change RdAt w4 (p + 1 + 1) (hd2 h).s (hd2 h).b at R4
    rw [show ((rNum (hd1 h) 6 : Nat) : Int) = hdQ h from rfl]
    clear g3 z3 b3 R3 r4 tq tq2
    obtain ⟨x, hx⟩ : ∃ x, w4.heap.size = x := ⟨_, rfl⟩
    have hx3 : p + 3 ≤ x := by omega
    have x5 := RBx.made w4 (hdQ h) (.slice none 0 0) 26
    have bb : Below x w4 (w4.alloc (.cells #[.int .i64 (hdQ h), .slice none 0 0] 26)) := (Below.refl _ _).alloc (by omega) _
    have s5 : (w4.alloc (.cells #[.int .i64 (hdQ h), .slice none 0 0] 26)).heap.size = x + 1 := by simp [hx]
    rw [hx] at x5
    have g5 := g4.below bb (by omega)
    have z5 := z4.below bb (by omega)
    have R5 := R4.below bb (by omega)
    have b5 := b4.trans (bb.mono (by omega))
    clear g4 z4 b4 R4 bb
    replace hx := Lib.hid hx
    go_wp2_with (fail)
    rw [hx.out]
    generalize w4.alloc (.cells #[.int .i64 (hdQ h), .slice none 0 0] 26) = w5 at *
    clear hx s4 s3 w4 w3 w2 wa wb
    refine (rdnum_q (p + 1 + 1) (hd2 h) 1 w5 R5 hq2).mono ?_
    rintro e w6 ⟨rfl, r6⟩
    have hq3 : (hd3 h).s.size ≤ 140737488355328 := Nat.le_trans (rNumR_size _ _) hq2
    have hI0 : Hid (PIn w p x K M B h 0 w6 (.slice none 0 0)) := Lib.hid ⟨g5.rd r6 (by omega), z5.rd r6 (by omega), r6.r, x5.rd r6 (by omega), SFam.nil _ _, b5.trans (r6.keep p (by omega) (by omega)), hx3⟩
    have hqk : ∀ k, (rdTo (hd3 h) k).s.size ≤ 140737488355328 := fun k => Nat.le_trans (rdTo_size _ k) hq3
    have hN7 := hdK_lt h
    rw [show rNum (hd2 h) 1 = hdK h from rfl]
    obtain ⟨N, hN⟩ : ∃ N, hdK h = N := ⟨_, rfl⟩
    rw [hN] at hN7 ⊢
    replace hN := Lib.hid hN
    clear g5 z5 R5 b5 r6 hq3 x5 s5 hq1 hq2
    go_wp2_with (fail)
    go_loopw [21] (fun t wr => ∃ k : Nat, k ≤ N ∧ t = .int .i64 (k : Int) ∧ ∃ v, PIn w p x K M B h k wr v) (fun t _ => N - (intOf t).toNat)
    case atStart => exact ⟨0, by omega, rfl, _, hI0.out⟩
    case round =>
      obtain ⟨k, hk, rfl, v, hI⟩ := hrel
      rename World => wr
      clear hI0
      obtain ⟨g0, z0, r0, o0, f0, b0, _⟩ := hI
      have hql := hqk k
      have hlen := rdS_len (hd3 h) k
      obtain ⟨va, vc, ev⟩ := f0.o.isSlice
      subst ev
      by_cases hlt : k < N
      · have y1 : (k : Int) < (N : Int) := by omega
        have hS := Lib.hid (rdS_succ (hd3 h) k)
        have hR : Hid (rdTo (hd3 h) (k + 1) = rNumR (rdTo (hd3 h) k) 1) := Lib.hid rfl
        generalize rdTo (hd3 h) k = q at *
        generalize rdS (hd3 h) k = l at *
        have g1 : GBx wr.drew p K M B := g0.heap rfl (Nat.le_refl _)
        have z1 : RBx wr.drew (p + 1) 0 (.slice none 0 0) := z0.heap rfl (Nat.le_refl _)
        have r1 : RdAt wr.drew (p + 1 + 1) q.s q.b := r0.hp rfl (Nat.le_refl _)
        have o1 : RBx wr.drew x (hdQ h) (.slice va l.length vc) := o0.heap rfl (Nat.le_refl _)
        have f1 : SFam wr.drew (x + 1) (.slice va l.length vc) l := f0.heap fun _ _ _ => rfl
        have b1 : Below p w wr.drew := b0.trans ⟨rfl, rfl, rfl, Nat.le_refl _, fun _ _ => rfl⟩
        have hpx := o1.lt
        clear g0 z0 r0 o0 f0 b0
        have c1 := o1.c1
        replace hlen := Lib.hid hlen
        go_wp2_with (fail)
        go_region_law (first
          | (refine step_append_run hap _ _ rfl rfl rfl (by simp [Act.eval, Act.put]) (by simp [Act.eval, Act.put]) ?_)
          | (go_simp; go_at_call 53
             refine (rdnum_q (p + 1 + 1) q 1 _ r1 hql).mono ?_
             rintro e w6 ⟨rfl, r6⟩
             have o6 := o1.rd r6 (by omega)
             have f6 : SFam w6 (x + 1) (.slice va l.length vc) l := f1.heap fun j h1 h2 => r6.oth j h2 (by omega)
             obtain ⟨v', w7, hap, f7, b7, k7⟩ := f6.add ((rNum q 1 : Nat) : Int) (by have := r6.size; have := o6.lt; omega) (by rw [hlen.out]; omega)
             obtain ⟨va', vc', ev⟩ := f7.o.isSlice
             rw [List.length_append, List.length_singleton] at ev
             subst ev
             have c6 := o6.c1
             have ca := cell_alloc_l (.cells #[.int .i64 ((rNum q 1 : Nat) : Int), .slice none 0 0] 52) c6
             have o7 : RBx w7 x (hdQ h) (.slice va l.length vc) := o6.heap (k7 x o6.lt (fun e => by have := (f6.old _ (.inl rfl) x e).1; omega)) b7.size
             have c7 := o7.c1
             have d7 := o7.f1
             replace o7 := Lib.hid o7
             replace f7 := Lib.hid f7
             replace o6 := Lib.hid o6
             replace f6 := Lib.hid f6))
        all_goals
          go_wp2_with (fail)
          go_roundw
          case rel =>
            have hs7 := b7.size
            have hs6 := r6.size
            have hx6 := o6.out.lt
            have eh : ∀ j, j < w6.heap.size → j < x → (w7.setCell ⟨x, 1, none⟩ (.slice va' (l.length + 1) vc')).heap[j]? = w6.heap[j]? := fun j h1 h2 => by
              rw [Below.heap_setCell _ _ _ _ (by show j ≠ x; omega)]
              exact k7 j h1 (fun e => by have := (f6.out.old _ (.inl rfl) j e).1; omega)
            refine ⟨k + 1, by omega, by go_num, .slice va' (l.length + 1) vc', ?_⟩
            refine ⟨(g1.rd r6 (by omega)).heap (eh p (by omega) (by omega)) (by simpa using hs7), (z1.rd r6 (by omega)).heap (eh (p + 1) (by omega) (by omega)) (by simpa using hs7), ?_, o7.out.set1 _, ?_, ?_, hx3⟩
            · rw [hR.out]; exact r6.r.hp (eh (p + 1 + 1) (by omega) (by omega)) (by simpa using hs7)
            · rw [hS.out]
              exact f7.out.heap fun j h1 h2 => Below.heap_setCell _ _ _ _ (by show j ≠ x; omega)
            · exact ((b1.trans (r6.keep p (by omega) (by have := g1.lt; omega))).trans (b7.mono (by omega))).setCell (p := ⟨x, 1, none⟩) (by show p ≤ x; omega) _
          case measure => simp [intOf]; omega
      · obtain rfl : k = N := by omega
        have y1 : ¬ ((k : Int) < (k : Int)) := by omega
        have hhC : Hid (((rNum (rdTo (hd3 h) k) 4 : Nat) : Int) = hdC h) := Lib.hid (by rw [hdC, hN.out])
        have hhE : Hid (rNumR (rdTo (hd3 h) k) 4 = hdE h) := Lib.hid (by rw [hdE, hN.out])
        have hhS : Hid (rdS (hd3 h) k = hdS h) := Lib.hid (by rw [hdS, hN.out])
        have hok := Lib.hid (bare_ok (hd3 h) k)
        replace hlen := Lib.hid hlen
        go_wp2_with (fail)
        refine (rdnum_q (p + 1 + 1) (rdTo (hd3 h) k) 4 wr r0 hql).mono ?_
        rintro e w6 ⟨rfl, r6⟩
        rw [hhC.out]
        have hqe : (hdE h).s.size ≤ 140737488355328 := by rw [← hhE.out]; exact Nat.le_trans (rNumR_size _ _) hql
        have g6 := g0.rd r6 (by omega)
        have z6 := z0.rd r6 (by omega)
        have o6 := o0.rd r6 (by omega)
        have f6 : SFam w6 (x + 1) (.slice va (rdS (hd3 h) k).length vc) (rdS (hd3 h) k) := f0.heap fun j h1 h2 => r6.oth j h2 (by omega)
        have b6 := b0.trans (r6.keep p (by omega) (by have := g0.lt; omega))
        have R6 := r6.r
        rw [hhE.out] at R6
        have f6' := f6.reads hok.out
        rw [hhS.out] at f6 f6' o6
        have hB : Hid (headB K M B h = ((!(hdE h).b && zeroB (hdE h).s) && ordB K M B (hdQ h) (hdS h))) := Lib.hid (by rw [headB, decide_eq_true hm]; rfl)
        have hl := hlen.out
        rw [hhS.out] at hl
        have hll : (hdS h).length ≤ 140737488355328 := by omega
        have hgo : Hid (∀ v w', SFam w' (x + 1) v (hdS h) → Below p w w' → headB K M B h = true → GivesP w K M B h (.returned (.tuple #[.agg #[.int .i64 (hdQ h), v], .int .i64 (hdC h), .int .i64 0])) w') := Lib.hid fun v w' hf hb ht => GivesP.ok ht (hf.mono (by rw [hp.out]; omega)) (by rw [hp.out]; exact hb)
        generalize hdS h = l at *
        have hO := fun W (hw : SReads W (.slice va l.length vc) l) => ordered_any K M B (hdQ h) (.slice va l.length vc) l W hw hll
        clear g0 z0 o0 f0 b0 r0 r6 hlen hok hql hqk hhE hhC hhS wr hl hll
        go_wp2_with (fail)
        refine (ends_any (p + 1 + 1) (hdE h).s (hdE h).b w6 R6 hqe).mono ?_
        rintro e w7 ⟨rfl, n, rfl⟩
        have g7 : GBx (w6.drewN n) p K M B := g6.heap rfl (Nat.le_refl _)
        have z7 : RBx (w6.drewN n) (p + 1) 0 (.slice none 0 0) := z6.heap rfl (Nat.le_refl _)
        have o7 : RBx (w6.drewN n) x (hdQ h) (.slice va l.length vc) := o6.heap rfl (Nat.le_refl _)
        have f7 : SFam (w6.drewN n) (x + 1) (.slice va l.length vc) l := f6.heap fun _ _ _ => rfl
        have F7 : SReads (w6.drewN n) (.slice va l.length vc) l := f6'.below (drew_below w6 n)
        have b7 : Below p w (w6.drewN n) := b6.trans ((drew_below w6 n).mono (by have := g6.lt; omega))
        have hx7 := o7.lt
        clear g6 z6 o6 f6 f6' b6 R6 hqe
        generalize w6.drewN n = w7 at *
        cases he : (!(hdE h).b && zeroB (hdE h).s) with
        | false =>
          rw [he] at hB
          have e0 := z7.c0
          have e1 := z7.c1
          have e2 := z7.f0
          have e3 := z7.f1
          clear he
          go_wp2_with (fail)
          refine bodyPost_ret (res_parse (z7.put 0 (.slice none 0 0)) rfl rfl rfl) rfl ?_
          exact GivesP.bad hB.out (by rw [hp.out]; exact put_below b7 (by omega) _ _)
        | true =>
          rw [he] at hB
          have e0 := g7.c0
          have e1 := g7.c1
          have e2 := g7.c2
          have e3 := o7.c0
          have e4 := o7.c1
          clear he
          go_wp2_with (fail)
          refine (hO _ F7).mono ?_
          rintro e w8 ⟨rfl, b8⟩
          have z8 := z7.below b8 z7.lt
          have o8 := o7.below b8 o7.lt
          have f8 := f7.after b8
          have b9 := b7.trans (b8.mono (by omega))
          have hx8 := o8.lt
          clear g7 z7 o7 f7 b7 b8 F7 e0 e1 e2 e3 e4 hO hx7
          have e0 := z8.c0
          have e1 := z8.c1
          have e2 := z8.f0
          have e3 := z8.f1
          cases ho : ordB K M B (hdQ h) l with
          | false =>
            rw [ho] at hB
            clear ho
            go_wp2_with (fail)
            refine bodyPost_ret (res_parse (z8.put 0 (.slice none 0 0)) rfl rfl rfl) rfl ?_
            exact GivesP.bad hB.out (by rw [hp.out]; exact put_below b9 (by omega) _ _)
          | true =>
            rw [ho] at hB
            have e4 := o8.c0
            have e5 := o8.c1
            clear ho
            go_wp2_with (fail)
            refine bodyPost_ret (res_parse (z8.put (hdQ h) (.slice va l.length vc)) rfl rfl rfl) rfl ?_
            refine hgo.out _ _ (f8.heap fun j h1 h2 => put_heap _ _ _ _ (by omega)) (put_below b9 (by omega) _ _) hB.out
  · have tq2 : ((rTxt ⟨h, false⟩ 4).toList != [74, 82, 78, 49]) = true := by rw [bne, tq, decide_eq_false hm]; rfl
    rw [decide_eq_false hm] at tq
    have e0 := z3.c0
    have e1 := z3.c1
    have e2 := z3.f0
    have e3 := z3.f1
    have hB := Lib.hid (headB_mark (K := K) (M := M) (B := B) hm)
    clear hm
    go_wp2_with (fail)
    refine bodyPost_ret (res_parse (z3.put 0 (.slice none 0 0)) rfl rfl rfl) rfl ?_
    exact GivesP.bad hB.out (by rw [hp.out]; exact put_below b3 (by omega) _ _)
end Go.Proofs.YtdbjfofnkijmoaaDoor
