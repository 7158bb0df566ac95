import Derived.Test.YtjgafpkpoppcbaaGreatDoorLrack
import Derived.Test.YtjgafpkpoppcbaaGreatDoorLsec
import Derived.Test.YtjgafpkpoppcbaaGreatDoorLgeo
import Derived.Test.YtjgafpkpoppcbaaGreatDoorLmat
import Derived.Test.YtjgafpkpoppcbaaGreatDoorLbase
import Derived.Laws.Rows
import Derived.Test.YtjgafpkpoppcbaaGreatDoorLrs
import Derived.Deep.CutBlock
import Derived.Test.YtjgafpkpoppcbaaGreatDoorLgf
import Derived.Deep.RegionHeld3
import Derived.Deep.RegionLaw
import Derived.IntWalk
import Derived.Deep.Cut
import Derived.Deep.CutRange
import Derived.RegionTactic
set_option linter.unusedVariables false
set_option linter.unusedSimpArgs false
section
namespace Go.Proofs.YtjgafpkpoppcbaaGreatDoor
open Go.RowKit
set_option maxRecDepth 100000
def szK (R : Rk) : Nat := (R.M 0).L.length
section
variable {w w1 : World} {S : Nat → Prop} {k n : Nat} {R : Rk}
theorem rt_slots (h : RA w S w1 k n R) : Calls Tryz.prog 33 #[.pointer (some ⟨k, 0, none⟩)] w1 fun e w' => e = .returned (.int .i64 (n : Int)) ∧ w1 = w' := by
  obtain ⟨Λ, hB⟩ := h.h
  exact slotsk_any hB
theorem rt_acts (h : RA w S w1 k n R) : Calls Tryz.prog 29 #[.pointer (some ⟨k, 0, none⟩)] w1 fun e w' => e = .returned (.int .i64 R.acts) ∧ w1 = w' := by
  obtain ⟨Λ, hB⟩ := h.h
  exact actsk_any hB
theorem rt_off (h : RA w S w1 k n R) : Calls Tryz.prog 68 #[.pointer (some ⟨k, 0, none⟩)] w1 fun e w' => e = .returned (.bool R.off) ∧ w1 = w' := by
  obtain ⟨Λ, hB⟩ := h.h
  exact offk_any hB
theorem rt_sectors (h : RA w S w1 k n R) : Calls Tryz.prog 119 #[.pointer (some ⟨k, 0, none⟩)] w1 fun e w' => e = .returned (.int .i64 (szK R : Int)) ∧ w1 = w' := by
  obtain ⟨Λ, hB⟩ := h.h
  have hn := hB.n1
  have h0 : (0 : Int) < (n : Int) := by omega
  have c0 := hB.c0
  have cs := hB.slot (i := 0) (by omega)
  have cm := ma_size (RBox.ma (RA.b h) (RA.from h) hB (i := 0) (by omega))
  have he : Hid ((R.M 0).L.length = szK R) := Lib.hid rfl
  generalize (R.M 0).L.length = z at *
  clear h hB
  go_enter Tryz.func119, Tryz.ntmps119
  go_wp2_with (fail)
  refine cm.mono ?_
  rintro e w' ⟨rfl, rfl⟩
  go_wp2_with (fail)
  go_ret
  exact ⟨by rw [he.out]; rfl, rfl⟩
theorem rd_size (h : RA w S w1 k n R) (s at_ : Int) : (rdRS n R s at_).size ≤ 128 := by
  obtain ⟨Λ, hB⟩ := h.h
  unfold rdRS
  by_cases e0 : rhE n R s = 0
  · obtain ⟨i, rfl, hi, ho⟩ := rhE_ok e0
    rw [if_pos e0, Int.toNat_natCast]
    have hp := hB.p i hi
    unfold rdS
    by_cases e1 : (R.M i).fd = true
    · rw [if_pos e1]; decide
    · rw [if_neg e1]
      by_cases e2 : hasN (R.M i).L at_ = true
      · obtain ⟨j, rfl, hj⟩ := hasN_nat e2
        rw [if_pos e2, Int.toNat_natCast]
        unfold lastOf
        rw [List.getLastD_eq_getLast?]
        cases e3 : ((R.M i).V (j : Int)).getLast? with
        | none => rw [Option.getD_none, List.getD_eq_getElem?_getD, List.getElem?_eq_getElem hj, Option.getD_some, hp.zl _ (List.getElem_mem hj)]; exact Nat.le_refl _
        | some x => rw [Option.getD_some, hp.zv _ x (List.mem_of_getLast? e3)]; exact Nat.le_refl _
      · rw [if_neg e2]; decide
  · rw [if_neg e0]; decide
end
def srS (n : Nat) (R : Rk) (id slot at_ : Int) : ByteArray := if rdRE n R slot at_ = 0 then openS id slot at_ (rdRS n R slot at_) else ⟨#[]⟩
def srB (n : Nat) (R : Rk) (id slot at_ : Int) : Bool := decide (rdRE n R slot at_ = 0) && openOk id slot at_ (rdRS n R slot at_)
def wsM (n : Nat) (id slot : Int) : Rk → Nat → List ByteArray → Rk × Int
  | R, _, [] => (R, 0)
  | R, a, p :: ps => if sealE id slot (a : Int) p = 0 then (if wrRE n R slot (a : Int) (sealL id slot (a : Int) p) = 0 then wsM n id slot (wrR n R slot (a : Int) (sealL id slot (a : Int) p)) (a + 1) ps else (wrR n R slot (a : Int) (sealL id slot (a : Int) p), wrRE n R slot (a : Int) (sealL id slot (a : Int) p))) else (R, sealE id slot (a : Int) p)
theorem wsM_ok {n : Nat} {id slot : Int} {b : Nat} : ∀ (ps : List ByteArray) (R : Rk) (a c : Nat), ROk n R c → c + ps.length ≤ b → ROk n (wsM n id slot R a ps).1 b
  | [], R, a, c, h, hc => h.le (by simpa using hc)
  | p :: ps, R, a, c, h, hc => by
    have h1 := h.wr slot (a : Int) (sealL id slot (a : Int) p)
    rw [List.length_cons] at hc
    unfold wsM
    by_cases e0 : sealE id slot (a : Int) p = 0
    · rw [if_pos e0]
      by_cases e1 : wrRE n R slot (a : Int) (sealL id slot (a : Int) p) = 0
      · rw [if_pos e1]; exact wsM_ok ps _ _ (c + 1) h1 (by omega)
      · rw [if_neg e1]; exact h1.le (by omega)
    · rw [if_neg e0]; exact h.le (by omega)
theorem wsM_drop {n : Nat} {id slot : Int} (R : Rk) (a : Nat) {ps : List ByteArray} {i : Nat} (hi : i < ps.length) : wsM n id slot R (a + i) (ps.drop i) = if sealE id slot ((a + i : Nat) : Int) ps[i] = 0 then (if wrRE n R slot ((a + i : Nat) : Int) (sealL id slot ((a + i : Nat) : Int) ps[i]) = 0 then wsM n id slot (wrR n R slot ((a + i : Nat) : Int) (sealL id slot ((a + i : Nat) : Int) ps[i])) (a + i + 1) (ps.drop (i + 1)) else (wrR n R slot ((a + i : Nat) : Int) (sealL id slot ((a + i : Nat) : Int) ps[i]), wrRE n R slot ((a + i : Nat) : Int) (sealL id slot ((a + i : Nat) : Int) ps[i]))) else (R, sealE id slot ((a + i : Nat) : Int) ps[i]) := by
  rw [List.drop_eq_getElem_cons hi]; rfl
section
variable {w w1 : World} {S : Nat → Prop} {k n : Nat} {R : Rk}
theorem sr_any (h : RA w S w1 k n R) (hk : ROk n R 1000000000000) (id slot at_ : Int) :
    Calls Tryz.prog 69 #[.pointer (some ⟨k, 0, none⟩), .int .i64 id, .int .i64 slot, .int .i64 at_] w1 (TellsB w1 (srS n R id slot at_) (srB n R id slot at_)) := by
  have cr := rt_read h slot at_ hk
  have hs := rd_size h slot at_
  have h1 : Hid (srS n R id slot at_ = if rdRE n R slot at_ = 0 then openS id slot at_ (rdRS n R slot at_) else ⟨#[]⟩) := Lib.hid rfl
  have h2 : Hid (srB n R id slot at_ = (decide (rdRE n R slot at_ = 0) && openOk id slot at_ (rdRS n R slot at_))) := Lib.hid rfl
  generalize srS n R id slot at_ = x1 at *
  generalize srB n R id slot at_ = x2 at *
  generalize rdRS n R slot at_ = s at *
  generalize rdRE n R slot at_ = er at *
  clear h hk
  by_cases e0 : er = 0
  · subst e0
    have co := fun W => open_any id slot at_ s W (by omega)
    have h1' : Hid (x1 = openS id slot at_ s) := Lib.hid (by rw [h1.out, if_pos rfl])
    have h2' : Hid (x2 = openOk id slot at_ s) := Lib.hid (by rw [h2.out]; rfl)
    clear h1 h2
    generalize openS id slot at_ s = y1 at *
    generalize openOk id slot at_ s = y2 at *
    go_enter Tryz.func69, Tryz.ntmps69
    go_wp2_with (fail)
    refine cr.mono ?_
    rintro e w2 ⟨rfl, b2⟩
    have co2 := co w2
    clear co cr
    go_wp2_with (fail)
    refine co2.mono ?_
    rintro e w3 ⟨rfl, b3⟩
    go_wp2_with (fail)
    go_ret2
    exact ⟨by rw [h1'.out, h2'.out]; rfl, b2.trans (b3.mono b2.size)⟩
  · have eb : (er != 0) = true := by rw [bne_iff_ne]; exact e0
    have ec : (er == 0) = false := by rw [beq_eq_false_iff_ne]; exact e0
    have h1' : Hid (x1 = ⟨#[]⟩) := Lib.hid (by rw [h1.out, if_neg e0])
    have h2' : Hid (x2 = false) := Lib.hid (by rw [h2.out, decide_eq_false e0]; rfl)
    clear h1 h2
    go_enter Tryz.func69, Tryz.ntmps69
    go_wp2_with (fail)
    refine cr.mono ?_
    rintro e w2 ⟨rfl, b2⟩
    go_wp2_with (fail)
    go_ret2
    exact ⟨by rw [h1'.out, h2'.out]; rfl, b2⟩
end
section
variable {w w1 wr w' : World} {S : Nat → Prop} {k n : Nat} {R : Rk}
def RNow (w : World) (S : Nat → Prop) (w1 : World) (k n : Nat) (R : Rk) (wr : World) : Prop := ∃ S', Stp S S' w1 wr ∧ RA w S' wr k n R
theorem RNow.after (h : RNow w S w1 k n R wr) (hb : Below wr.heap.size wr w') : RNow w S w1 k n R w' := by
  obtain ⟨S', s1, h1⟩ := h
  exact ⟨S', s1.trans (Stp.quiet hb), h1.after hb⟩
theorem RNow.keep (h : RNow w S w1 k n R wr) {q : Nat} (hq : q < w1.heap.size) (hS : ¬ S q) : wr.heap[q]? = w1.heap[q]? := by
  obtain ⟨S', s1, h1⟩ := h
  exact s1.oth q hq hS
theorem RNow.size (h : RNow w S w1 k n R wr) : w1.heap.size ≤ wr.heap.size := by
  obtain ⟨S', s1, h1⟩ := h
  exact s1.b0.size
theorem RNow.start (h : RA w S w1 k n R) : RNow w S w1 k n R w1 := ⟨S, Stp.refl _ _, h⟩
theorem RNow.calls (h : RNow w S w1 k n R wr) {f : Nat} {args : Array Value} {R' : Rk} {u : Value} (c : ∀ S', RA w S' wr k n R → Calls Tryz.prog f args wr (RDoes w S' wr k n R' u)) : Calls Tryz.prog f args wr fun e w' => e = .returned u ∧ RNow w S w1 k n R' w' := by
  obtain ⟨S', s1, h1⟩ := h
  refine (c S' h1).mono ?_
  rintro e w' ⟨e1, S2, s2, h2⟩
  exact ⟨e1, S2, s1.trans s2, h2⟩
set_option maxHeartbeats 1000000 in
theorem sw_any (h : RA w S w1 k n R) (b : Nat) (hk : ROk n R b) (id slot : Int) (a : Nat) (ha : a ≤ 100000) (v : Value) (ps : List ByteArray) (hb : b + ps.length ≤ 1000000000000) (hv : Reads w1 v (tx ps)) (hvS : ∀ q, v.ownBlock = some q → ¬ S q) (hf : ∀ p ∈ ps, p.size ≤ 140737488351232) (hl : ps.length ≤ 100000) :
    Calls Tryz.prog 45 #[.pointer (some ⟨k, 0, none⟩), .int .i64 id, .int .i64 slot, .int .i64 (a : Int), v] w1 (RDoes w S w1 k n (wsM n id slot R a ps).1 (.int .i64 (wsM n id slot R a ps).2)) := by
  obtain ⟨va, vc, rfl, hit⟩ := Reads.items hv
  have HIT : Hid (∀ i (hi : i < ps.length), ∃ cb co, va = some ⟨cb, co, none⟩ ∧ ∀ R' wr, RNow w S w1 k n R' wr → wr.cell? ⟨cb, co + i, none⟩ = some (.string ps[i])) := Lib.hid fun i hi => by
    obtain ⟨cb, co, e1, e2, e3⟩ := hit i hi
    exact ⟨cb, co, e1, fun R' wr hr => (cell_of_heap (hr.keep e2 (hvS cb (by rw [e1]; rfl))) (co + i)).trans e3⟩
  obtain ⟨X, hX⟩ : ∃ X, X = wsM n id slot R a ps := ⟨_, rfl⟩
  rw [← hX]
  have HX := Lib.hid hX
  have HF := Lib.hid hf
  have HN := Lib.hid (RNow.start h)
  have HK := Lib.hid hk
  clear hX hv hvS hit h hf hk
  go_enter Tryz.func45, Tryz.ntmps45
  go_wp2_with (fail)
  go_loopw [11, 12, 13, 14, 15, 18] (fun _ _ _ _ _ t wr => ∃ (i : Nat) (R' : Rk), i ≤ ps.length ∧ t = .int .i64 (i : Int) ∧ X = wsM n id slot R' (a + i) (ps.drop i) ∧ ROk n R' (b + i) ∧ RNow w S w1 k n R' wr) (fun _ _ _ _ _ t _ => ps.length - (RowKit.intOf t).toNat)
  case atStart => exact ⟨0, R, Nat.zero_le _, rfl, HX.out, HK.out, HN.out⟩
  case round =>
    clear HX HN HK
    obtain ⟨i, R', hi, rfl, hX, hk, hn⟩ := hrel
    rename World => wr
    by_cases hlt : i < ps.length
    · have y1 : (i : Int) < (ps.length : Int) := by omega
      obtain ⟨cb, co, rfl, hcell⟩ := HIT.out i hlt
      have hc1 := hcell _ _ hn
      rw [wsM_drop R' a hlt] at hX
      have hps := HF.out ps[i] (List.getElem_mem hlt)
      obtain ⟨p, hp⟩ : ∃ p, ps[i] = p := ⟨_, rfl⟩
      rw [hp] at hX hc1 hps
      have cs := seal_any id slot ((a + i : Nat) : Int) p wr hps
      have hsz := sealL_size id slot ((a + i : Nat) : Int) p
      have hHX := Lib.hid hX
      have Hk := Lib.hid hk
      have Hn := Lib.hid hn
      clear hX hp hcell hps hk hn
      rw [Int.natCast_add] at cs
      by_cases h0 : sealE id slot ((a + i : Nat) : Int) p = 0
      · have hX1 : Hid (X = if wrRE n R' slot ((a + i : Nat) : Int) (sealL id slot ((a + i : Nat) : Int) p) = 0 then wsM n id slot (wrR n R' slot ((a + i : Nat) : Int) (sealL id slot ((a + i : Nat) : Int) p)) (a + i + 1) (ps.drop (i + 1)) else (wrR n R' slot ((a + i : Nat) : Int) (sealL id slot ((a + i : Nat) : Int) p), wrRE n R' slot ((a + i : Nat) : Int) (sealL id slot ((a + i : Nat) : Int) p))) := Lib.hid (by rw [hHX.out, if_pos h0])
        have hk2 := Lib.hid (Hk.out.wr slot ((a + i : Nat) : Int) (sealL id slot ((a + i : Nat) : Int) p))
        have cw : ∀ W, RNow w S w1 k n R' W → Calls Tryz.prog 84 #[.pointer (some ⟨k, 0, none⟩), .int .i64 slot, .int .i64 ((a : Int) + (i : Int)), .string (sealL id slot ((a + i : Nat) : Int) p)] W fun e w' => e = .returned (.int .i64 (wrRE n R' slot ((a + i : Nat) : Int) (sealL id slot ((a + i : Nat) : Int) p))) ∧ RNow w S w1 k n (wrR n R' slot ((a + i : Nat) : Int) (sealL id slot ((a + i : Nat) : Int) p)) w' := fun W hW => hW.calls (fun S' hA => by
          have := rt_write hA slot ((a + i : Nat) : Int) (sealL id slot ((a + i : Nat) : Int) p) (Hk.out.le (by omega))
          rw [Int.natCast_add] at this
          rw [Int.natCast_add]
          exact this)
        rw [Int.natCast_add] at h0
        rw [h0] at cs
        clear hHX h0 Hk
        generalize wrR n R' slot ((a + i : Nat) : Int) (sealL id slot ((a + i : Nat) : Int) p) = R2 at *
        generalize wrRE n R' slot ((a + i : Nat) : Int) (sealL id slot ((a + i : Nat) : Int) p) = e2 at *
        rw [Int.natCast_add] at cw
        generalize sealL id slot ((a : Int) + (i : Int)) p = q at *
        go_wp2_with (fail)
        refine cs.mono ?_
        rintro e w3 ⟨rfl, b3⟩
        have cw3 := cw w3 (Hn.out.after b3)
        clear cw cs b3 hc1
        by_cases h1 : e2 = 0
        · subst h1
          have hX2 : Hid (X = wsM n id slot R2 (a + (i + 1)) (ps.drop (i + 1))) := Lib.hid (by rw [hX1.out, if_pos rfl, Nat.add_assoc])
          clear hX1
          go_wp2_with (fail)
          refine cw3.mono ?_
          rintro e w4 ⟨rfl, h4⟩
          have H4 := Lib.hid h4
          clear h4 cw3
          go_wp2_with (fail)
          go_roundw
          case rel => exact ⟨i + 1, R2, by omega, by go_num, hX2.out, by rw [← Nat.add_assoc]; exact hk2.out, H4.out⟩
          case measure => simp [RowKit.intOf]; omega
        · have hX2 : Hid (X = (R2, e2)) := Lib.hid (by rw [hX1.out, if_neg h1])
          have t1 : (e2 != 0) = true := by rw [bne_iff_ne]; exact h1
          have t2 : (e2 == 0) = false := by rw [beq_eq_false_iff_ne]; exact h1
          clear hX1
          go_wp2_with (fail)
          refine cw3.mono ?_
          rintro e w4 ⟨rfl, h4⟩
          have H4 := Lib.hid h4
          clear h4 cw3
          go_wp2_with (fail)
          go_ret
          exact ⟨by rw [hX2.out]; rfl, by rw [hX2.out]; exact H4.out⟩
      · have hX2 : Hid (X = (R', sealE id slot ((a + i : Nat) : Int) p)) := Lib.hid (by rw [hHX.out, if_neg h0])
        rw [Int.natCast_add] at h0
        clear hHX Hk
        rw [Int.natCast_add] at hX2
        generalize sealE id slot ((a : Int) + (i : Int)) p = e2 at *
        have t1 : (e2 != 0) = true := by rw [bne_iff_ne]; exact h0
        have t2 : (e2 == 0) = false := by rw [beq_eq_false_iff_ne]; exact h0
        generalize sealL id slot ((a : Int) + (i : Int)) p = q at *
        go_wp2_with (fail)
        refine cs.mono ?_
        rintro e w3 ⟨rfl, b3⟩
        have H4 := Lib.hid (Hn.out.after b3)
        clear cs b3 hc1
        go_wp2_with (fail)
        go_ret
        exact ⟨by rw [hX2.out]; rfl, by rw [hX2.out]; exact H4.out⟩
    · obtain rfl : i = ps.length := by omega
      have y1 : ¬ ((ps.length : Int) < (ps.length : Int)) := by omega
      rw [List.drop_length] at hX
      have hX2 : Hid (X = (R', 0)) := Lib.hid hX
      have H3 := Lib.hid hn
      clear hX hn hk
      go_wp2_with (fail)
      go_ret
      exact ⟨by rw [hX2.out]; rfl, by rw [hX2.out]; exact H3.out⟩
end
end Go.Proofs.YtjgafpkpoppcbaaGreatDoor
end
section
namespace Go.Proofs.YtjgafpkpoppcbaaGreatDoor
open Go.RowKit
set_option maxRecDepth 100000
def ROwn (w : World) (S : Nat → Prop) (w1 : World) (k n : Nat) (R : Rk) (E : TypeId) (v : Value) (xs : List Value) (wr : World) : Prop :=
  ∃ S', Stp S S' w1 wr ∧ RA w S' wr k n R ∧ Own wr w1.heap.size E v xs ∧ ∀ q, v.ownBlock = some q → ¬ S' q
section
variable {w w1 wr w' : World} {S : Nat → Prop} {k n : Nat} {R R' : Rk} {E : TypeId} {v : Value} {xs : List Value}
theorem ROwn.nil (h : RNow w S w1 k n R wr) (E : TypeId) : ROwn w S w1 k n R E (.slice none 0 0) [] wr := by
  obtain ⟨S', s1, h1⟩ := h
  exact ⟨S', s1, h1, Own.nil _ _ _, fun q hq => by cases hq⟩
theorem ROwn.now (h : ROwn w S w1 k n R E v xs wr) : RNow w S w1 k n R wr := by
  obtain ⟨S', s1, h1, _⟩ := h
  exact ⟨S', s1, h1⟩
theorem ROwn.own (h : ROwn w S w1 k n R E v xs wr) : Own wr w1.heap.size E v xs := by
  obtain ⟨S', s1, h1, o, _⟩ := h
  exact o
theorem ROwn.size (h : ROwn w S w1 k n R E v xs wr) : w1.heap.size ≤ wr.heap.size := h.now.size
theorem ROwn.keep (h : ROwn w S w1 k n R E v xs wr) {q : Nat} (hq : q < w1.heap.size) (hS : ¬ S q) : wr.heap[q]? = w1.heap[q]? := h.now.keep hq hS
theorem ROwn.after (h : ROwn w S w1 k n R E v xs wr) (hb : Below wr.heap.size wr w') : ROwn w S w1 k n R E v xs w' := by
  obtain ⟨S', s1, h1, o, a⟩ := h
  exact ⟨S', s1.trans (Stp.quiet hb), h1.after hb, o.after hb, a⟩
theorem ROwn.calls (h : ROwn w S w1 k n R E v xs wr) {f : Nat} {args : Array Value} {u : Value} (c : ∀ S', RA w S' wr k n R → Stp S S' w1 wr → Calls Tryz.prog f args wr (RDoes w S' wr k n R' u)) : Calls Tryz.prog f args wr fun e w' => e = .returned u ∧ ROwn w S w1 k n R' E v xs w' := by
  obtain ⟨S', s1, h1, o, a⟩ := h
  refine (c S' h1 s1).mono ?_
  rintro e w' ⟨e1, S2, s2, h2⟩
  refine ⟨e1, S2, s1.trans s2, h2, o.sameAt fun q hq => s2.oth q (o.o.lt q hq).2 (a q hq), fun q hq hs => ?_⟩
  rcases s2.grow q hs with z | z
  · exact a q hq z
  · have := (o.o.lt q hq).2; omega
theorem ROwn.push {P : Program} {T : TypeId} {i : TypeInfo} {z : Value} {bytes : Nat} (hT : P.underlying T = some (.slice E)) (hi : P.info? E = some i) (hz : i.zero = some z) (hs : i.size = 1) (hy : i.bytes = bytes) (hzs : z.cells.size = 1)
    (h : ROwn w S w1 k n R E v xs wr) (hw : w.heap.size ≤ w1.heap.size) (x : Value) (hx : x.oneCell' = true) (hm : (xs.length + 1) * bytes ≤ 140737488355328) (hl : xs.length + 1 ≤ 140737488355328) :
    ∃ v' w', (Builtin.append_ #[T, T] T #[v, .slice (some ⟨wr.heap.size, 0, none⟩) 1 1]).run P (wr.alloc (.cells #[x] E)) = .ok v' w' ∧ ROwn w S w1 k n R E v' (xs ++ [x]) w' := by
  obtain ⟨S', s1, h1, o, a⟩ := h
  obtain ⟨v', w', hap, o', b', kp, hv⟩ := Own.pushA (P := P) (T := T) hT hi hz hs hy hzs o x hx s1.b0.size hm hl
  have hne : ∀ q, S' q → w'.heap[q]? = wr.heap[q]? := fun q hq => kp q (h1.lt q hq) fun e => a q e hq
  refine ⟨v', w', hap, S', ⟨s1.b0.trans (b'.mono (Nat.zero_le _)), fun q hq hS => (kp q (Nat.lt_of_lt_of_le hq s1.b0.size) fun e => ?_).trans (s1.oth q hq hS), s1.grow⟩, RS.other h1 (b'.mono hw) hne, o', fun q hq hs => ?_⟩
  · have := (o.o.lt q e).1; omega
  · rcases hv with e | e
    · rw [e] at hq; exact a q hq hs
    · rw [e] at hq
      injection hq with hq
      have := h1.lt q hs
      omega
end
end Go.Proofs.YtjgafpkpoppcbaaGreatDoor
end
section
namespace Go.Proofs.YtjgafpkpoppcbaaGreatDoor
open Go.RowKit
set_option maxRecDepth 100000
def ea {σ : Type} (f : σ → Int → σ × Int) : σ → List Int → List Int → σ × List Int × Int
  | s, acc, [] => (s, acc, 0)
  | s, acc, x :: xs => if (f s x).2 = 0 then ea f (f s x).1 acc xs else if (f s x).2 = 80 then ea f (f s x).1 (acc ++ [x]) xs else ((f s x).1, [], (f s x).2)
theorem ea_ok {n b : Nat} {f : Rk → Int → Rk × Int} (hf : ∀ R x c, ROk n R c → ROk n (f R x).1 (c + b)) : ∀ (l : List Int) (R : Rk) (acc : List Int) (c : Nat), ROk n R c → ROk n (ea f R acc l).1 (c + b * l.length)
  | [], R, acc, c, h => h.le (by omega)
  | x :: xs, R, acc, c, h => by
    have h1 := hf R x c h
    have e : c + b * (xs.length + 1) = c + b + b * xs.length := by rw [Nat.mul_add]; omega
    unfold ea
    rw [List.length_cons, e]
    by_cases e0 : (f R x).2 = 0
    · rw [if_pos e0]; exact ea_ok hf xs _ _ _ h1
    · rw [if_neg e0]
      by_cases e1 : (f R x).2 = 80
      · rw [if_pos e1]; exact ea_ok hf xs _ _ _ h1
      · rw [if_neg e1]; exact h1.le (by omega)
theorem ea_drop {σ : Type} (f : σ → Int → σ × Int) (s : σ) (acc : List Int) {l : List Int} {i : Nat} (hi : i < l.length) : ea f s acc (l.drop i) = if (f s l[i]).2 = 0 then ea f (f s l[i]).1 acc (l.drop (i + 1)) else if (f s l[i]).2 = 80 then ea f (f s l[i]).1 (acc ++ [l[i]]) (l.drop (i + 1)) else ((f s l[i]).1, [], (f s l[i]).2) := by
  rw [List.drop_eq_getElem_cons hi]; rfl
def EDoes (w : World) (S : Nat → Prop) (w1 : World) (k n : Nat) (X : Rk × List Int × Int) (e : Ending) (w' : World) : Prop := ∃ v, e = .returned (.tuple #[v, .int .i64 X.2.2]) ∧ ROwn w S w1 k n X.1 3 v (X.2.1.map (.int .i64)) w'
section
variable {w w1 : World} {S : Nat → Prop} {k n : Nat} {R : Rk}
set_option maxHeartbeats 2000000 in
theorem each_flush (h : RA w S w1 k n R) (b c : Nat) (hk : ROk n R c) (f : Rk → Int → Rk × Int) (hf : ∀ R x c, ROk n R c → ROk n (f R x).1 (c + b)) (vl : Value) (l : List Int) (hv : Reads w1 vl (l.map (.int .i64))) (hvS : l ≠ [] → ∀ q, vl.ownBlock = some q → ¬ S q) (hl : l.length ≤ 1000000) (hc : c + b * l.length ≤ 1000000000000)
    (hdo : ∀ x ∈ l, ∀ S' R' wr, RA w S' wr k n R' → Stp S S' w1 wr → ROk n R' (1000000000000 - b) → Calls Tryz.prog 35 #[.pointer (some ⟨k, 0, none⟩), .int .i64 x] wr (RDoes w S' wr k n (f R' x).1 (.int .i64 (f R' x).2))) :
    Calls Tryz.prog 34 #[vl, .func (.func 35) #[.pointer (some ⟨k, 0, none⟩)] #[]] w1 (EDoes w S w1 k n (ea f R [] l)) := by
  obtain ⟨va, vc, rfl, hit⟩ := Reads.items hv
  obtain ⟨i2, q1, q2, q3, q4⟩ := info_parts Tryz.infoIc
  have hww : w.heap.size ≤ w1.heap.size := h.b.size
  have HIT : Hid (∀ i (hi : i < l.length), ∃ cb co, va = some ⟨cb, co, none⟩ ∧ ∀ R' v xs wr, ROwn w S w1 k n R' 3 v xs wr → wr.cell? ⟨cb, co + i, none⟩ = some (.int .i64 l[i])) := Lib.hid fun i hi => by
    obtain ⟨cb, co, e1, e2, e3⟩ := hit i hi
    exact ⟨cb, co, e1, fun R' v xs wr hr => (cell_of_heap (hr.keep e2 (hvS (fun z => by rw [z] at hi; exact Nat.not_lt_zero _ hi) cb (by rw [e1]; rfl))) (co + i)).trans e3⟩
  obtain ⟨X, hX⟩ : ∃ X, X = ea f R [] l := ⟨_, rfl⟩
  rw [← hX]
  have HX := Lib.hid hX
  have HD := Lib.hid hdo
  have HN := Lib.hid (ROwn.nil (RNow.start h) 3)
  have HK := Lib.hid hk
  have HF := Lib.hid hf
  clear hX hv hvS hit h hdo hk hf
  go_enter Tryz.func34, Tryz.ntmps34
  go_wp2_with (fail)
  go_loopw [6, 8, 9, 12] (fun v _ _ t wr => ∃ (i : Nat) (R' : Rk) (acc : List Int), i ≤ l.length ∧ t = .int .i64 (i : Int) ∧ X = ea f R' acc (l.drop i) ∧ ROk n R' (c + b * i) ∧ acc.length ≤ i ∧ ROwn w S w1 k n R' 3 v (acc.map (.int .i64)) wr) (fun _ _ _ t _ => l.length - (RowKit.intOf t).toNat)
  case atStart => exact ⟨0, R, [], Nat.zero_le _, rfl, HX.out, HK.out, Nat.le_refl _, HN.out⟩
  case round =>
    clear HX HN HK
    obtain ⟨i, R', acc, hi, rfl, hX, hk, hal, ho⟩ := hrel
    rename World => wr
    by_cases hlt : i < l.length
    · have y1 : (i : Int) < (l.length : Int) := by omega
      obtain ⟨cb, co, rfl, hcell⟩ := HIT.out i hlt
      have hc1 := hcell _ _ _ _ ho
      have hmul : b * (i + 1) ≤ b * l.length := Nat.mul_le_mul_left _ hlt
      have hmul2 : b * (i + 1) = b * i + b := by rw [Nat.mul_add]; omega
      rw [ea_drop f R' acc hlt] at hX
      have hxm0 := List.getElem_mem hlt
      obtain ⟨x, hx⟩ : ∃ x, l[i] = x := ⟨_, rfl⟩
      rw [hx] at hX hc1 hxm0
      clear hx
      have hk12 : ROk n R' (1000000000000 - b) := hk.le (by omega)
      have cx := fun S' hA hs => HD.out x hxm0 S' R' wr hA hs hk12
      have hk2 := HF.out R' x _ hk
      obtain ⟨y, hy⟩ : ∃ y, f R' x = y := ⟨_, rfl⟩
      rw [hy] at cx hX hk2
      have cd := ho.calls cx
      have hHX := Lib.hid hX
      have Hk2 := Lib.hid hk2
      clear hX hcell hk ho cx hk12 hk2 hxm0 hy
      obtain ⟨R2, e2⟩ := y
      by_cases h0 : e2 = 0
      · subst h0
        have hX2 : Hid (X = ea f R2 acc (l.drop (i + 1))) := Lib.hid (by rw [hHX.out, if_pos rfl])
        clear hHX
        go_wp2_with (fail)
        refine cd.mono ?_
        rintro e w3 ⟨rfl, h3⟩
        have H3 := Lib.hid h3
        clear h3 cd hc1
        go_wp2_with (fail)
        go_roundw
        case rel => exact ⟨i + 1, R2, acc, by omega, by go_num, hX2.out, by rw [hmul2, ← Nat.add_assoc]; exact Hk2.out, by omega, H3.out⟩
        case measure => simp [RowKit.intOf]; omega
      · by_cases h80 : e2 = 80
        · subst h80
          have hX2 : Hid (X = ea f R2 (acc ++ [x]) (l.drop (i + 1))) := Lib.hid (by rw [hHX.out, if_neg h0, if_pos rfl])
          clear hHX h0
          go_wp2_with (fail)
          refine cd.mono ?_
          rintro e w3 ⟨rfl, h3⟩
          obtain ⟨v4, w4, hap, h4⟩ := h3.push (P := Tryz.prog) (T := 26) Tryz.underlying26 q1 q2 q3 q4 rfl hww (.int .i64 x) rfl (by rw [List.length_map]; omega) (by rw [List.length_map]; omega)
          have H4 := Lib.hid h4
          clear h3 h4 cd hc1
          go_wp2_with (at_builtin; refine wpList_append_run hap _ _ rfl rfl rfl rfl rfl ?_)
          go_roundw
          case rel => exact ⟨i + 1, R2, acc ++ [x], by omega, by go_num, hX2.out, by rw [hmul2, ← Nat.add_assoc]; exact Hk2.out, by rw [List.length_append]; simp; omega, by rw [List.map_append]; exact H4.out⟩
          case measure => simp [RowKit.intOf]; omega
        · have hX2 : Hid (X = (R2, [], e2)) := Lib.hid (by rw [hHX.out, if_neg h0, if_neg h80])
          clear hHX
          have t1 : (e2 == 0) = false := by rw [beq_eq_false_iff_ne]; exact h0
          have t2 : (e2 == 80) = false := by rw [beq_eq_false_iff_ne]; exact h80
          go_wp2_with (fail)
          refine cd.mono ?_
          rintro e w3 ⟨rfl, h3⟩
          have H3 := Lib.hid (ROwn.nil h3.now 3)
          clear h3 cd hc1
          go_wp2_with (fail)
          go_ret2
          obtain rfl := hX2.out
          exact ⟨_, rfl, H3.out⟩
    · obtain rfl : i = l.length := by omega
      have y1 : ¬ ((l.length : Int) < (l.length : Int)) := by omega
      rw [List.drop_length] at hX
      have hX2 : Hid (X = (R', acc, 0)) := Lib.hid hX
      have H3 := Lib.hid ho
      clear hX ho hk
      go_wp2_with (fail)
      go_ret2
      obtain rfl := hX2.out
      exact ⟨_, rfl, H3.out⟩
set_option maxHeartbeats 2000000 in
theorem each_write (kb ib gb sb hb : Nat) (h : RA w S w1 k n R) (b c : Nat) (hk : ROk n R c) (f : Rk → Int → Rk × Int) (hf : ∀ R x c, ROk n R c → ROk n (f R x).1 (c + b)) (vl : Value) (l : List Int) (hv : Reads w1 vl (l.map (.int .i64))) (hvS : l ≠ [] → ∀ q, vl.ownBlock = some q → ¬ S q) (hl : l.length ≤ 1000000) (hc : c + b * l.length ≤ 1000000000000)
    (hdo : ∀ x ∈ l, ∀ S' R' wr, RA w S' wr k n R' → Stp S S' w1 wr → ROk n R' (1000000000000 - b) → Calls Tryz.prog 44 #[.int .i64 x, .pointer (some ⟨kb, 0, none⟩), .pointer (some ⟨ib, 0, none⟩), .pointer (some ⟨gb, 0, none⟩), .pointer (some ⟨sb, 0, none⟩), .pointer (some ⟨hb, 0, none⟩)] wr (RDoes w S' wr k n (f R' x).1 (.int .i64 (f R' x).2))) :
    Calls Tryz.prog 34 #[vl, .func (.func 44) #[] #[.pointer (some ⟨kb, 0, none⟩), .pointer (some ⟨ib, 0, none⟩), .pointer (some ⟨gb, 0, none⟩), .pointer (some ⟨sb, 0, none⟩), .pointer (some ⟨hb, 0, none⟩)]] w1 (EDoes w S w1 k n (ea f R [] l)) := by
  obtain ⟨va, vc, rfl, hit⟩ := Reads.items hv
  obtain ⟨i2, q1, q2, q3, q4⟩ := info_parts Tryz.infoIc
  have hww : w.heap.size ≤ w1.heap.size := h.b.size
  have HIT : Hid (∀ i (hi : i < l.length), ∃ cb co, va = some ⟨cb, co, none⟩ ∧ ∀ R' v xs wr, ROwn w S w1 k n R' 3 v xs wr → wr.cell? ⟨cb, co + i, none⟩ = some (.int .i64 l[i])) := Lib.hid fun i hi => by
    obtain ⟨cb, co, e1, e2, e3⟩ := hit i hi
    exact ⟨cb, co, e1, fun R' v xs wr hr => (cell_of_heap (hr.keep e2 (hvS (fun z => by rw [z] at hi; exact Nat.not_lt_zero _ hi) cb (by rw [e1]; rfl))) (co + i)).trans e3⟩
  obtain ⟨X, hX⟩ : ∃ X, X = ea f R [] l := ⟨_, rfl⟩
  rw [← hX]
  have HX := Lib.hid hX
  have HD := Lib.hid hdo
  have HN := Lib.hid (ROwn.nil (RNow.start h) 3)
  have HK := Lib.hid hk
  have HF := Lib.hid hf
  clear hX hv hvS hit h hdo hk hf
  go_enter Tryz.func34, Tryz.ntmps34
  go_wp2_with (fail)
  go_loopw [6, 8, 9, 12] (fun v _ _ t wr => ∃ (i : Nat) (R' : Rk) (acc : List Int), i ≤ l.length ∧ t = .int .i64 (i : Int) ∧ X = ea f R' acc (l.drop i) ∧ ROk n R' (c + b * i) ∧ acc.length ≤ i ∧ ROwn w S w1 k n R' 3 v (acc.map (.int .i64)) wr) (fun _ _ _ t _ => l.length - (RowKit.intOf t).toNat)
  case atStart => exact ⟨0, R, [], Nat.zero_le _, rfl, HX.out, HK.out, Nat.le_refl _, HN.out⟩
  case round =>
    clear HX HN HK
    obtain ⟨i, R', acc, hi, rfl, hX, hk, hal, ho⟩ := hrel
    rename World => wr
    by_cases hlt : i < l.length
    · have y1 : (i : Int) < (l.length : Int) := by omega
      obtain ⟨cb, co, rfl, hcell⟩ := HIT.out i hlt
      have hc1 := hcell _ _ _ _ ho
      have hmul : b * (i + 1) ≤ b * l.length := Nat.mul_le_mul_left _ hlt
      have hmul2 : b * (i + 1) = b * i + b := by rw [Nat.mul_add]; omega
      rw [ea_drop f R' acc hlt] at hX
      have hxm0 := List.getElem_mem hlt
      obtain ⟨x, hx⟩ : ∃ x, l[i] = x := ⟨_, rfl⟩
      rw [hx] at hX hc1 hxm0
      clear hx
      have hk12 : ROk n R' (1000000000000 - b) := hk.le (by omega)
      have cx := fun S' hA hs => HD.out x hxm0 S' R' wr hA hs hk12
      have hk2 := HF.out R' x _ hk
      obtain ⟨y, hy⟩ : ∃ y, f R' x = y := ⟨_, rfl⟩
      rw [hy] at cx hX hk2
      have cd := ho.calls cx
      have hHX := Lib.hid hX
      have Hk2 := Lib.hid hk2
      clear hX hcell hk ho cx hk12 hk2 hxm0 hy
      obtain ⟨R2, e2⟩ := y
      by_cases h0 : e2 = 0
      · subst h0
        have hX2 : Hid (X = ea f R2 acc (l.drop (i + 1))) := Lib.hid (by rw [hHX.out, if_pos rfl])
        clear hHX
        go_wp2_with (fail)
        refine cd.mono ?_
        rintro e w3 ⟨rfl, h3⟩
        have H3 := Lib.hid h3
        clear h3 cd hc1
        go_wp2_with (fail)
        go_roundw
        case rel => exact ⟨i + 1, R2, acc, by omega, by go_num, hX2.out, by rw [hmul2, ← Nat.add_assoc]; exact Hk2.out, by omega, H3.out⟩
        case measure => simp [RowKit.intOf]; omega
      · by_cases h80 : e2 = 80
        · subst h80
          have hX2 : Hid (X = ea f R2 (acc ++ [x]) (l.drop (i + 1))) := Lib.hid (by rw [hHX.out, if_neg h0, if_pos rfl])
          clear hHX h0
          go_wp2_with (fail)
          refine cd.mono ?_
          rintro e w3 ⟨rfl, h3⟩
          obtain ⟨v4, w4, hap, h4⟩ := h3.push (P := Tryz.prog) (T := 26) Tryz.underlying26 q1 q2 q3 q4 rfl hww (.int .i64 x) rfl (by rw [List.length_map]; omega) (by rw [List.length_map]; omega)
          have H4 := Lib.hid h4
          clear h3 h4 cd hc1
          go_wp2_with (at_builtin; refine wpList_append_run hap _ _ rfl rfl rfl rfl rfl ?_)
          go_roundw
          case rel => exact ⟨i + 1, R2, acc ++ [x], by omega, by go_num, hX2.out, by rw [hmul2, ← Nat.add_assoc]; exact Hk2.out, by rw [List.length_append]; simp; omega, by rw [List.map_append]; exact H4.out⟩
          case measure => simp [RowKit.intOf]; omega
        · have hX2 : Hid (X = (R2, [], e2)) := Lib.hid (by rw [hHX.out, if_neg h0, if_neg h80])
          clear hHX
          have t1 : (e2 == 0) = false := by rw [beq_eq_false_iff_ne]; exact h0
          have t2 : (e2 == 80) = false := by rw [beq_eq_false_iff_ne]; exact h80
          go_wp2_with (fail)
          refine cd.mono ?_
          rintro e w3 ⟨rfl, h3⟩
          have H3 := Lib.hid (ROwn.nil h3.now 3)
          clear h3 cd hc1
          go_wp2_with (fail)
          go_ret2
          obtain rfl := hX2.out
          exact ⟨_, rfl, H3.out⟩
    · obtain rfl : i = l.length := by omega
      have y1 : ¬ ((l.length : Int) < (l.length : Int)) := by omega
      rw [List.drop_length] at hX
      have hX2 : Hid (X = (R', acc, 0)) := Lib.hid hX
      have H3 := Lib.hid ho
      clear hX ho hk
      go_wp2_with (fail)
      go_ret2
      obtain rfl := hX2.out
      exact ⟨_, rfl, H3.out⟩
end
end Go.Proofs.YtjgafpkpoppcbaaGreatDoor
end
section
namespace Go.Proofs.YtjgafpkpoppcbaaGreatDoor
open Go.RowKit
section
variable {P : Program} {ops : Array Oper} {o : Oper} {a : Act} {S : World → Prop}
theorem yieldsIf_index_run {ty : TypeId} {p iv v : Value} (hw : Region.wanted o (yielded ops a.tmps) = true) (x y : Operand) (ho : o.op = .indexAddr ty x y) (hx : a.eval x = p) (hy : a.eval y = iv) (hS : ∀ w, (Instr.indexAt ty p iv).run P w = .ok v w) : YieldsIf P ops S o v a :=
  .inl ⟨hw, fun w hw' => by
    unfold execOp
    simp only [ho, hx, hy, Sem.run_bind, Sem.run_pure, hS w, Result.andThen_ok]⟩
theorem yieldsIf_bin_run {op : BinOp} {ty ty2 : TypeId} {p q v : Value} (hw : Region.wanted o (yielded ops a.tmps) = true) (x y : Operand) (ho : o.op = .binOp op ty x y ty2) (hx : a.eval x = p) (hy : a.eval y = q) (hg : ∀ w, (eqGuard op ty x y p q).run P w = .ok () w) (hS : ∀ w, (binOp op ty p q).run P w = .ok v w) : YieldsIf P ops S o v a :=
  .inl ⟨hw, fun w hw' => by
    unfold execOp
    simp only [ho, hx, hy, Sem.run_bind, Sem.run_pure, hg w, hS w, Result.andThen_ok]⟩
end
theorem slc_at {P : Program} {T E : TypeId} (hT : P.underlying T = some (.slice E)) (hs : ∀ W, (sizeOf E).run P W = .ok 1 W) (b o n c i : Nat) (hi : i < n) (W : World) : (Instr.indexAt T (.slice (some ⟨b, o, none⟩) n c) (.int .i64 (i : Int))).run P W = .ok (.pointer (some ⟨b, o + i, none⟩)) W := by
  simp [Instr.indexAt, run_underlying hT, asIntOf, hs, hi]
  exact addr_at b o i
theorem cell_load {P : Program} {T : TypeId} (hT : ∀ W, (isAgg T).run P W = .ok false W) {W : World} {b o : Nat} {v : Value} (h : W.cell? ⟨b, o, none⟩ = some v) : (Instr.loadAt T (.pointer (some ⟨b, o, none⟩))).run P W = .ok v W := by
  simp [Instr.loadAt, Instr.sureAddr, asAddr, loadVar, hT W, h]
theorem whole_load {P : Program} {T ty : TypeId} {d : TypeDesc} (hu : P.underlying ty = some d) (hd : (match d with | .struct _ | .array _ _ => true | _ => false) = true) {cs : Array Value} (hi : (P.info? ty).map (·.size) = some cs.size) {W : World} {b : Nat} {fr : Nat × Nat} (h : W.heap[b]? = some (.cells cs T fr)) : (Instr.loadAt ty (.pointer (some ⟨b, 0, none⟩))).run P W = .ok (.agg cs) W := by
  have := run_loadVar_row (P := P) W b T ty cs fr d h hu hd hi
  simp [Instr.loadAt, Instr.sureAddr, asAddr, this]
theorem heap_cell {W : World} {b o : Nat} {cs : Array Value} {T : TypeId} {fr : Nat × Nat} {v : Value} (h : W.heap[b]? = some (.cells cs T fr)) (hv : cs[o]? = some v) : W.cell? ⟨b, o, none⟩ = some v := by
  simp [World.cell?, h, hv]
theorem geo_load {W : World} {b : Nat} {K M B : Int} {fr : Nat × Nat} (h : W.heap[b]? = some (.cells #[.int .i64 K, .int .i64 M, .int .i64 B] 23 fr)) : (Instr.loadAt 23 (.pointer (some ⟨b, 0, none⟩))).run Tryz.prog W = .ok (.agg #[.int .i64 K, .int .i64 M, .int .i64 B]) W :=
  whole_load Tryz.underlying23 rfl (by kernel_rfl) h
theorem Below.drew_ (w : World) : Below w.heap.size w w.drew := ⟨rfl, rfl, rfl, Nat.le_refl _, fun _ _ => rfl⟩
theorem build_str (p : ByteArray) (W : World) : (Instr.buildSlice 39 1 #[(0, .string p)]).run Tryz.prog W = .ok (.slice (some ⟨W.heap.size, 0, none⟩) 1 1) (W.alloc (.cells #[.string p] 9)) := by kernel_rfl
end Go.Proofs.YtjgafpkpoppcbaaGreatDoor
end
section
namespace Go.Proofs.YtjgafpkpoppcbaaGreatDoor
open Go.RowKit
set_option maxRecDepth 100000
structure WBox (W : World) (k kb ib gb sb hb : Nat) (id K M B N : Int) (vh : Value) : Prop where
  k : W.cell? ⟨kb, 0, none⟩ = some (.pointer (some ⟨k, 0, none⟩))
  i : W.cell? ⟨ib, 0, none⟩ = some (.int .i64 id)
  g : W.heap[gb]? = some (.cells #[.int .i64 K, .int .i64 M, .int .i64 B] 23 (0, 0))
  s : W.cell? ⟨sb, 0, none⟩ = some (.int .i64 N)
  h : W.cell? ⟨hb, 0, none⟩ = some vh
  lt : kb < W.heap.size ∧ ib < W.heap.size ∧ gb < W.heap.size ∧ sb < W.heap.size ∧ hb < W.heap.size
section
variable {w wr w' : World} {S : Nat → Prop} {k n : Nat} {R : Rk} {kb ib gb sb hb : Nat} {id K M B N : Int} {vh : Value}
theorem WBox.heap (b : WBox wr k kb ib gb sb hb id K M B N vh) (hs : wr.heap.size ≤ w'.heap.size) (e : ∀ q, q = kb ∨ q = ib ∨ q = gb ∨ q = sb ∨ q = hb → w'.heap[q]? = wr.heap[q]?) : WBox w' k kb ib gb sb hb id K M B N vh := by
  obtain ⟨l1, l2, l3, l4, l5⟩ := b.lt
  exact ⟨(cell_of_heap (e _ (.inl rfl)) _).trans b.k, (cell_of_heap (e _ (.inr (.inl rfl))) _).trans b.i, (e _ (.inr (.inr (.inl rfl)))).trans b.g, (cell_of_heap (e _ (.inr (.inr (.inr (.inl rfl))))) _).trans b.s, (cell_of_heap (e _ (.inr (.inr (.inr (.inr rfl))))) _).trans b.h, by omega⟩
theorem WBox.below (b : WBox wr k kb ib gb sb hb id K M B N vh) (hb' : Below wr.heap.size wr w') : WBox w' k kb ib gb sb hb id K M B N vh := b.heap hb'.size fun q hq => hb'.block q (by
  obtain ⟨l1, l2, l3, l4, l5⟩ := b.lt
  rcases hq with rfl | rfl | rfl | rfl | rfl <;> assumption)
set_option maxHeartbeats 2000000 in
theorem wr1_any (h : RA w S wr k n R) (hk : ROk n R 999999999999) (b : WBox wr k kb ib gb sb hb id K M B N vh) (hbS : ∀ q, q = kb ∨ q = ib ∨ q = gb ∨ q = sb ∨ q = hb → ¬ S q) (shards : List ByteArray) (hv : Reads wr vh (tx shards)) (hvS : ∀ q, vh.ownBlock = some q → ¬ S q)
    (slot : Int) (idx a : Nat) (hidx : idx < shards.length) (hgi : gIndex K M B N slot = (idx : Int)) (hgs : gSector K M B N = (a : Int)) (ha : a ≤ 100000) (hp : shards[idx].size ≤ 140737488351232) :
    Calls Tryz.prog 44 #[.int .i64 slot, .pointer (some ⟨kb, 0, none⟩), .pointer (some ⟨ib, 0, none⟩), .pointer (some ⟨gb, 0, none⟩), .pointer (some ⟨sb, 0, none⟩), .pointer (some ⟨hb, 0, none⟩)] wr (RDoes w S wr k n (wsM n id slot R a [shards[idx]]).1 (.int .i64 (wsM n id slot R a [shards[idx]]).2)) := by
  obtain ⟨va, vc, rfl, hit⟩ := Reads.items hv
  obtain ⟨cb, co, rfl, hcb, hcell⟩ := hit idx hidx
  have hcS := hvS cb rfl
  obtain ⟨p, hpe⟩ : ∃ p, shards[idx] = p := ⟨_, rfl⟩
  rw [hpe] at hcell hp ⊢
  have hbs := build_str p
  have cS : ∀ W, Calls Tryz.prog 46 #[.agg #[.int .i64 K, .int .i64 M, .int .i64 B], .int .i64 N] W fun e w' => e = .returned (.int .i64 (a : Int)) ∧ Below W.heap.size W w' := fun W => by rw [← hgs]; exact gsector_any K M B N W
  have cI : ∀ W, Calls Tryz.prog 47 #[.agg #[.int .i64 K, .int .i64 M, .int .i64 B], .int .i64 N, .int .i64 slot] W fun e w' => e = .returned (.int .i64 (idx : Int)) ∧ Below W.heap.size W w' := fun W => by rw [← hgi]; exact index_any K M B N slot W
  have Hcw : Hid (∀ W, Below wr.heap.size wr W → Calls Tryz.prog 45 #[.pointer (some ⟨k, 0, none⟩), .int .i64 id, .int .i64 slot, .int .i64 (a : Int), .slice (some ⟨W.heap.size, 0, none⟩) 1 1] (W.alloc (.cells #[.string p] 9)) (RDoes w S (W.alloc (.cells #[.string p] 9)) k n (wsM n id slot R a [p]).1 (.int .i64 (wsM n id slot R a [p]).2))) := Lib.hid fun W hW => by
    have hA := h.after (hW.alloc hW.size (.cells #[.string p] 9))
    refine sw_any hA 999999999999 hk id slot a ha _ [p] (by simp) (.inr ⟨W.heap.size, 0, 1, rfl, by simp, fun i hi => ?_⟩) (fun q hq hS => ?_) (fun x hx => ?_) (by simp)
    · obtain rfl : i = 0 := by simpa using hi
      exact heap_cell (heap_alloc_new _ _) rfl
    · have e : W.heap.size = q := by simpa [Value.ownBlock] using hq
      have := (h.after hW).lt q hS
      omega
    · rw [List.mem_singleton] at hx; rw [hx]; exact hp
  have HS : Hid (∀ W, Below wr.heap.size wr W → (W.cell? ⟨kb, 0, none⟩ = some (.pointer (some ⟨k, 0, none⟩)) ∧ W.cell? ⟨ib, 0, none⟩ = some (.int .i64 id) ∧ W.heap[gb]? = some (.cells #[.int .i64 K, .int .i64 M, .int .i64 B] 23 (0, 0)) ∧ W.cell? ⟨sb, 0, none⟩ = some (.int .i64 N) ∧ W.cell? ⟨hb, 0, none⟩ = some (.slice (some ⟨cb, co, none⟩) shards.length vc) ∧ W.cell? ⟨cb, co + idx, none⟩ = some (.string p))) := Lib.hid fun W hW => by
    have b2 := b.below hW
    exact ⟨b2.k, b2.i, b2.g, b2.s, b2.h, (hW.cell (p := ⟨cb, co + idx, none⟩) hcb).trans hcell⟩
  have Hke : Hid (∀ (W : World) (S2 : Nat → Prop) (W1 : World), Stp S S2 W1 W → Below wr.heap.size wr W1 → (W.cell? ⟨kb, 0, none⟩ = some (.pointer (some ⟨k, 0, none⟩)) ∧ W.cell? ⟨ib, 0, none⟩ = some (.int .i64 id) ∧ W.heap[gb]? = some (.cells #[.int .i64 K, .int .i64 M, .int .i64 B] 23 (0, 0)) ∧ W.cell? ⟨sb, 0, none⟩ = some (.int .i64 N) ∧ W.cell? ⟨hb, 0, none⟩ = some (.slice (some ⟨cb, co, none⟩) shards.length vc) ∧ W.cell? ⟨cb, co + idx, none⟩ = some (.string p))) := Lib.hid fun W S2 W1 hs hW => by
    obtain ⟨l1, l2, l3, l4, l5⟩ := b.lt
    have hsz := hW.size
    have hk2 : ∀ q, q < wr.heap.size → ¬ S q → W.heap[q]? = wr.heap[q]? := fun q hq hS => (hs.oth q (by omega) hS).trans (hW.block q hq)
    have b2 := b.heap (Nat.le_trans hsz hs.b0.size) (fun q hq => hk2 q (by rcases hq with rfl | rfl | rfl | rfl | rfl <;> assumption) (hbS q hq))
    exact ⟨b2.k, b2.i, b2.g, b2.s, b2.h, (cell_of_heap (hk2 cb hcb hcS) _).trans hcell⟩
  clear h hk b hbS hv hvS hit hcell hpe hgi hgs hp
  go_enter Tryz.func44, Tryz.ntmps44
  go_upto_region 1 with (fail)
  refine wp_region_held_drew (S := fun W => W.cell? ⟨kb, 0, none⟩ = some (.pointer (some ⟨k, 0, none⟩)) ∧ W.cell? ⟨ib, 0, none⟩ = some (.int .i64 id) ∧ W.heap[gb]? = some (.cells #[.int .i64 K, .int .i64 M, .int .i64 B] 23 (0, 0)) ∧ W.cell? ⟨sb, 0, none⟩ = some (.int .i64 N) ∧ W.cell? ⟨hb, 0, none⟩ = some (.slice (some ⟨cb, co, none⟩) shards.length vc) ∧ W.cell? ⟨cb, co + idx, none⟩ = some (.string p)) (by kernel_rfl) (HS.out _ (Below.drew_ wr)) (fun hHeld => ?_)
  refine wpAnyH_takeD (i := 0) (v := .pointer (some ⟨k, 0, none⟩)) (some 8) rfl (by kernel_rfl) (by kernel_rfl) (by kernel_rfl) rfl (fun _ _ _ h => h) (yieldsIf_load_run (by rfl) _ rfl rfl (fun _ hs => cell_load (fun W => by kernel_rfl) hs.1)) (by assumption) ?_
  simp only [Act.put, List.setIfInBounds_toArray, List.set_cons_zero, List.set_cons_succ]
  refine wpAnyH_takeD (i := 1) (v := .int .i64 id) (some 9) rfl (by kernel_rfl) (by kernel_rfl) (by kernel_rfl) rfl (fun _ _ _ h => h) (yieldsIf_load_run (by rfl) _ rfl rfl (fun _ hs => cell_load (fun W => by kernel_rfl) hs.2.1)) (by assumption) ?_
  simp only [Act.put, List.setIfInBounds_toArray, List.set_cons_zero, List.set_cons_succ]
  refine wpAnyH_takeD (i := 2) (some 10) rfl (by kernel_rfl) (by kernel_rfl) (by kernel_rfl) rfl (fun _ _ _ h => h) (Or.inl ⟨by rfl, by rintro w ⟨hs1, hs2, hs3, hs4, hs5, hs6⟩; first | rfl | (go_simp; done) | (go_simp; rfl)⟩) (by assumption) ?_
  simp only [Act.put, List.setIfInBounds_toArray, List.set_cons_zero, List.set_cons_succ]
  refine wpAnyH_takeD (i := 3) (v := .agg #[.int .i64 K, .int .i64 M, .int .i64 B]) (some 11) rfl (by kernel_rfl) (by kernel_rfl) (by kernel_rfl) rfl (fun _ _ _ h => h) (yieldsIf_load_run (by rfl) _ rfl rfl (fun _ hs => geo_load hs.2.2.1)) (by assumption) ?_
  simp only [Act.put, List.setIfInBounds_toArray, List.set_cons_zero, List.set_cons_succ]
  refine wpAnyH_takeD (i := 4) (v := .pointer (some ⟨sb, 0, none⟩)) (some 12) rfl (by kernel_rfl) (by kernel_rfl) (by kernel_rfl) rfl (fun _ _ _ h => h) (Or.inl ⟨by rfl, by rintro w ⟨hs1, hs2, hs3, hs4, hs5, hs6⟩; first | rfl | (go_simp; done) | (go_simp; rfl)⟩) (by assumption) ?_
  simp only [Act.put, List.setIfInBounds_toArray, List.set_cons_zero, List.set_cons_succ]
  refine wpAnyH_takeD (i := 5) (v := .int .i64 N) (some 13) rfl (by kernel_rfl) (by kernel_rfl) (by kernel_rfl) rfl (fun _ _ _ h => h) (yieldsIf_load_run (by rfl) _ rfl rfl (fun _ hs => cell_load (fun W => by kernel_rfl) hs.2.2.2.1)) (by assumption) ?_
  simp only [Act.put, List.setIfInBounds_toArray, List.set_cons_zero, List.set_cons_succ]
  refine wpAnyH_takeD (i := 7) (v := .slice (some ⟨cb, co, none⟩) shards.length vc) (some 15) rfl (by kernel_rfl) (by kernel_rfl) (by kernel_rfl) rfl (fun _ _ _ h => h) (yieldsIf_load_run (by rfl) _ rfl rfl (fun _ hs => cell_load (fun W => by kernel_rfl) hs.2.2.2.2.1)) (by assumption) ?_
  simp only [Act.put, List.setIfInBounds_toArray, List.set_cons_zero, List.set_cons_succ]
  refine wpAnyH_takeD (i := 8) (v := .agg #[.int .i64 K, .int .i64 M, .int .i64 B]) (some 16) rfl (by kernel_rfl) (by kernel_rfl) (by kernel_rfl) rfl (fun _ _ _ h => h) (yieldsIf_load_run (by rfl) _ rfl rfl (fun _ hs => geo_load hs.2.2.1)) (by assumption) ?_
  simp only [Act.put, List.setIfInBounds_toArray, List.set_cons_zero, List.set_cons_succ]
  refine wpAnyH_takeD (i := 9) (v := .pointer (some ⟨sb, 0, none⟩)) (some 17) rfl (by kernel_rfl) (by kernel_rfl) (by kernel_rfl) rfl (fun _ _ _ h => h) (Or.inl ⟨by rfl, by rintro w ⟨hs1, hs2, hs3, hs4, hs5, hs6⟩; first | rfl | (go_simp; done) | (go_simp; rfl)⟩) (by assumption) ?_
  simp only [Act.put, List.setIfInBounds_toArray, List.set_cons_zero, List.set_cons_succ]
  refine wpAnyH_takeD (i := 10) (v := .int .i64 N) (some 18) rfl (by kernel_rfl) (by kernel_rfl) (by kernel_rfl) rfl (fun _ _ _ h => h) (yieldsIf_load_run (by rfl) _ rfl rfl (fun _ hs => cell_load (fun W => by kernel_rfl) hs.2.2.2.1)) (by assumption) ?_
  simp only [Act.put, List.setIfInBounds_toArray, List.set_cons_zero, List.set_cons_succ]
  refine wpAnyH_takeD (i := 11) (some 19) rfl (by kernel_rfl) (by kernel_rfl) (by kernel_rfl) rfl (fun _ _ _ h => h) (Or.inl ⟨by rfl, by rintro w ⟨hs1, hs2, hs3, hs4, hs5, hs6⟩; first | rfl | (go_simp; done) | (go_simp; rfl)⟩) (by assumption) ?_
  simp only [Act.put, List.setIfInBounds_toArray, List.set_cons_zero, List.set_cons_succ]
  refine wpAnyH_ready (rs := [6]) (by kernel_rfl) (by simp) ?_
  refine AllReadyH.cons rfl (fun K hK => ?_) AllReadyH.nil
  go_simp
  refine (cS wr.drew).mono ?_
  rintro e w2 ⟨rfl, b2⟩
  have b12 := (Below.drew_ wr).trans b2
  refine hK.out _ _ (HS.out _ b12) (fun hHeld => ?_)
  clear hK
  try simp only [Act.put, List.setIfInBounds_toArray, List.set_cons_zero, List.set_cons_succ]
  refine wpAnyH_ready (rs := [12]) (by kernel_rfl) (by simp) ?_
  refine AllReadyH.cons rfl (fun K hK => ?_) AllReadyH.nil
  go_simp
  refine (cI w2).mono ?_
  rintro e w3 ⟨rfl, b3⟩
  have b13 := b12.trans (b3.mono b12.size)
  refine hK.out _ _ (HS.out _ b13) (fun hHeld => ?_)
  clear hK
  try simp only [Act.put, List.setIfInBounds_toArray, List.set_cons_zero, List.set_cons_succ]
  refine wpAnyH_takeD (i := 13) (v := .pointer (some ⟨cb, co + idx, none⟩)) (some 21) rfl (by kernel_rfl) (by kernel_rfl) (by kernel_rfl) rfl (fun _ _ _ h => h) (yieldsIf_index_run (by rfl) _ _ rfl rfl rfl (fun W => slc_at Tryz.underlying39 (fun W => by kernel_rfl) cb co _ _ idx hidx W)) (by assumption) ?_
  simp only [Act.put, List.setIfInBounds_toArray, List.set_cons_zero, List.set_cons_succ]
  refine wpAnyH_takeD (i := 14) (v := .string p) (some 22) rfl (by kernel_rfl) (by kernel_rfl) (by kernel_rfl) rfl (fun _ _ _ h => h) (yieldsIf_load_run (by rfl) _ rfl rfl (fun _ hs => cell_load (fun W => by kernel_rfl) hs.2.2.2.2.2)) (by assumption) ?_
  simp only [Act.put, List.setIfInBounds_toArray, List.set_cons_zero, List.set_cons_succ]
  have b14 := b13.alloc b13.size (.cells #[.string p] 9)
  have cW := Hcw.out w3 b13
  refine wpAnyH_ready (rs := [15]) (by kernel_rfl) (by simp) ?_
  refine AllReadyH.cons rfl (fun K hK => ?_) AllReadyH.nil
  refine step_build_run (d := some 23) (hbs w3) _ rfl rfl rfl rfl ?_
  refine hK.out _ _ (HS.out _ b14) (fun hHeld => ?_)
  clear hK
  try simp only [Act.put, List.setIfInBounds_toArray, List.set_cons_zero, List.set_cons_succ]
  refine wpAnyH_ready (rs := [16]) (by kernel_rfl) (by simp) ?_
  refine AllReadyH.cons rfl (fun K hK => ?_) AllReadyH.nil
  go_simp
  refine cW.mono ?_
  rintro e w5 ⟨rfl, S5, s5, h5⟩
  refine hK.out _ _ (Hke.out w5 _ _ s5 b14) (fun hHeld => ?_)
  clear hK
  try simp only [Act.put, List.setIfInBounds_toArray, List.set_cons_zero, List.set_cons_succ]
  have H5 := Lib.hid h5
  have S5h := Lib.hid ((Stp.quiet b14).trans s5)
  clear h5 s5 cW
  refine wpAnyH_takeD (i := 17) (some 7) rfl (by kernel_rfl) (by kernel_rfl) (by kernel_rfl) rfl (fun _ _ _ h => h) (Or.inl ⟨by rfl, by rintro w ⟨hs1, hs2, hs3, hs4, hs5, hs6⟩; first | rfl | (go_simp; done) | (go_simp; rfl)⟩) (by assumption) ?_
  simp only [Act.put, List.setIfInBounds_toArray, List.set_cons_zero, List.set_cons_succ]
  refine wpAnyH_done (by kernel_rfl) ?_ _
  go_wp2_with (fail)
  go_ret
  exact ⟨rfl, S5, S5h.out, H5.out⟩
end
end Go.Proofs.YtjgafpkpoppcbaaGreatDoor
end
section
namespace Go.Proofs.YtjgafpkpoppcbaaGreatDoor
open Go.RowKit
set_option maxRecDepth 100000
structure SGeoAt (w : World) (p : Nat) (K M B : Int) : Prop where
  k : w.cell? ⟨p, 0, none⟩ = some (.int .i64 K)
  m : w.cell? ⟨p, 1, none⟩ = some (.int .i64 M)
  b : w.cell? ⟨p, 2, none⟩ = some (.int .i64 B)
  lt : p < w.heap.size
theorem SGeoAt.below {C : Nat} {w w' : World} {p : Nat} {K M B : Int} (h : SGeoAt w p K M B) (hb : Below C w w') (hC : p < C) : SGeoAt w' p K M B :=
  ⟨(hb.cell (p := ⟨p, 0, none⟩) hC).trans h.k, (hb.cell (p := ⟨p, 1, none⟩) hC).trans h.m, (hb.cell (p := ⟨p, 2, none⟩) hC).trans h.b, Nat.lt_of_lt_of_le h.lt hb.size⟩
theorem SGeoAt.new (w : World) (K M B : Int) : SGeoAt (w.alloc (.cells #[.int .i64 K, .int .i64 M, .int .i64 B] 23)) w.heap.size K M B :=
  ⟨heap_cell (heap_alloc_new _ _) rfl, heap_cell (heap_alloc_new _ _) rfl, heap_cell (heap_alloc_new _ _) rfl, by simp⟩
def sfitsB (n : Nat) (R : Rk) (id K M B : Int) : Bool := decide (1 ≤ id) && (decide (id ≤ 65535) && (gR K M B && (((n : Int) == gSlots K M B) && decide (gSectors K M B ≤ (szK R : Int)))))
section
variable {w w1 : World} {S : Nat → Prop} {k n : Nat} {R : Rk}
set_option maxHeartbeats 4000000 in
theorem sfits_any (h : RA w S w1 k n R) (id K M B : Int) : Calls Tryz.prog 80 #[.pointer (some ⟨k, 0, none⟩), .int .i64 id, .agg #[.int .i64 K, .int .i64 M, .int .i64 B]] w1 fun e w' => e = .returned (.bool (sfitsB n R id K M B)) ∧ Below w1.heap.size w1 w' := by
  obtain ⟨wb, hwb⟩ : ∃ wb, wb = w1.alloc (.cells #[.int .i64 K, .int .i64 M, .int .i64 B] 23) := ⟨_, rfl⟩
  have hb0 : Below w1.heap.size w1 wb := by rw [hwb]; exact (Below.refl _ _).alloc (Nat.le_refl _) _
  have hA : SGeoAt wb w1.heap.size K M B := by rw [hwb]; exact SGeoAt.new w1 K M B
  have c1 : ∀ W, Calls Tryz.prog 118 #[.agg #[.int .i64 K, .int .i64 M, .int .i64 B]] W fun e w' => e = .returned (.bool (gR K M B)) ∧ Below W.heap.size W w' := fun W => gright_any K M B W
  have c2 : ∀ W, Below w1.heap.size w1 W → Calls Tryz.prog 33 #[.pointer (some ⟨k, 0, none⟩)] W fun e w' => e = .returned (.int .i64 (n : Int)) ∧ Below W.heap.size W w' := fun W hW => (rt_slots (h.after hW)).mono fun e w' he => ⟨he.1, by rw [← he.2]; exact Below.refl _ _⟩
  have c3 : ∀ W, Calls Tryz.prog 88 #[.agg #[.int .i64 K, .int .i64 M, .int .i64 B]] W fun e w' => e = .returned (.int .i64 (gSlots K M B)) ∧ Below W.heap.size W w' := fun W => slots_any K M B W
  have c4 : ∀ W, Below w1.heap.size w1 W → Calls Tryz.prog 119 #[.pointer (some ⟨k, 0, none⟩)] W fun e w' => e = .returned (.int .i64 (szK R : Int)) ∧ Below W.heap.size W w' := fun W hW => (rt_sectors (h.after hW)).mono fun e w' he => ⟨he.1, by rw [← he.2]; exact Below.refl _ _⟩
  have c5 : ∀ W, Calls Tryz.prog 120 #[.agg #[.int .i64 K, .int .i64 M, .int .i64 B]] W fun e w' => e = .returned (.int .i64 (gSectors K M B)) ∧ Below W.heap.size W w' := fun W => sectors_any K M B W
  have he : Hid (sfitsB n R id K M B = (decide (1 ≤ id) && (decide (id ≤ 65535) && (gR K M B && (((n : Int) == gSlots K M B) && decide (gSectors K M B ≤ (szK R : Int))))))) := Lib.hid rfl
  generalize sfitsB n R id K M B = X at *
  generalize gSlots K M B = s at *
  generalize gSectors K M B = c at *
  generalize (szK R : Int) = z at *
  generalize gR K M B = b3 at *
  obtain ⟨b1, t1⟩ : ∃ b, decide (1 ≤ id) = b := ⟨_, rfl⟩
  obtain ⟨b2, t2⟩ : ∃ b, decide (id ≤ 65535) = b := ⟨_, rfl⟩
  obtain ⟨b4, t4⟩ : ∃ b, ((n : Int) == s) = b := ⟨_, rfl⟩
  obtain ⟨b5, t5⟩ : ∃ b, decide (c ≤ z) = b := ⟨_, rfl⟩
  rw [t1, t2, t4, t5] at he
  clear h
  cases b1 with
  | false =>
    go_enter Tryz.func80, Tryz.ntmps80
    go_upto_region 1 with (fail)
    rw [show w1.alloc (.cells #[.int .i64 K, .int .i64 M, .int .i64 B] 23) = wb from hwb.symm]
    clear hwb
    refine wp_region_cls (Below wb.heap.size wb) (by kernel_rfl) (by kernel_rfl) (Below.refl _ _).drew ?_
    intro Z f hne hD hE
    have hDw : ∀ z, Below w1.heap.size w1 (f z) := fun z => below_c hb0 (hD z)
    have d0 : ∀ z, (f z).cell? ⟨w1.heap.size, 0, none⟩ = some (.int .i64 K) := fun z => (hA.below (hD z) hA.lt).k
    have d1 : ∀ z, (f z).cell? ⟨w1.heap.size, 1, none⟩ = some (.int .i64 M) := fun z => (hA.below (hD z) hA.lt).m
    have d2 : ∀ z, (f z).cell? ⟨w1.heap.size, 2, none⟩ = some (.int .i64 B) := fun z => (hA.below (hD z) hA.lt).b
    clear hA
    iterate 29 (go_big_quiet_step (first | (go_at_call 118; with_reducible exact toQB hD hE _ (c1 _)) | (go_at_call 33; with_reducible exact toQB hD hE _ (c2 _ (hDw _))) | (go_at_call 88; with_reducible exact toQB hD hE _ (c3 _)) | (go_at_call 119; with_reducible exact toQB hD hE _ (c4 _ (hDw _))) | (go_at_call 120; with_reducible exact toQB hD hE _ (c5 _))))
    refine wpQuiet_nil ?_
    intro _ hw'
    obtain ⟨zq, hw''⟩ := hw'
    subst hw''
    have hB3 := hDw zq
    clear d0 d1 d2
    go_wp2_with (fail)
    go_ret
    exact ⟨by rw [he.out]; rfl, hB3⟩
  | true =>
    cases b2 with
    | false =>
      go_enter Tryz.func80, Tryz.ntmps80
      go_upto_region 1 with (fail)
      rw [show w1.alloc (.cells #[.int .i64 K, .int .i64 M, .int .i64 B] 23) = wb from hwb.symm]
      clear hwb
      refine wp_region_cls (Below wb.heap.size wb) (by kernel_rfl) (by kernel_rfl) (Below.refl _ _).drew ?_
      intro Z f hne hD hE
      have hDw : ∀ z, Below w1.heap.size w1 (f z) := fun z => below_c hb0 (hD z)
      have d0 : ∀ z, (f z).cell? ⟨w1.heap.size, 0, none⟩ = some (.int .i64 K) := fun z => (hA.below (hD z) hA.lt).k
      have d1 : ∀ z, (f z).cell? ⟨w1.heap.size, 1, none⟩ = some (.int .i64 M) := fun z => (hA.below (hD z) hA.lt).m
      have d2 : ∀ z, (f z).cell? ⟨w1.heap.size, 2, none⟩ = some (.int .i64 B) := fun z => (hA.below (hD z) hA.lt).b
      clear hA
      iterate 29 (go_big_quiet_step (first | (go_at_call 118; with_reducible exact toQB hD hE _ (c1 _)) | (go_at_call 33; with_reducible exact toQB hD hE _ (c2 _ (hDw _))) | (go_at_call 88; with_reducible exact toQB hD hE _ (c3 _)) | (go_at_call 119; with_reducible exact toQB hD hE _ (c4 _ (hDw _))) | (go_at_call 120; with_reducible exact toQB hD hE _ (c5 _))))
      refine wpQuiet_nil ?_
      intro _ hw'
      obtain ⟨zq, hw''⟩ := hw'
      subst hw''
      have hB3 := hDw zq
      clear d0 d1 d2
      go_wp2_with (fail)
      go_ret
      exact ⟨by rw [he.out]; rfl, hB3⟩
    | true =>
      cases b3 with
      | false =>
        go_enter Tryz.func80, Tryz.ntmps80
        go_upto_region 1 with (fail)
        rw [show w1.alloc (.cells #[.int .i64 K, .int .i64 M, .int .i64 B] 23) = wb from hwb.symm]
        clear hwb
        refine wp_region_cls (Below wb.heap.size wb) (by kernel_rfl) (by kernel_rfl) (Below.refl _ _).drew ?_
        intro Z f hne hD hE
        have hDw : ∀ z, Below w1.heap.size w1 (f z) := fun z => below_c hb0 (hD z)
        have d0 : ∀ z, (f z).cell? ⟨w1.heap.size, 0, none⟩ = some (.int .i64 K) := fun z => (hA.below (hD z) hA.lt).k
        have d1 : ∀ z, (f z).cell? ⟨w1.heap.size, 1, none⟩ = some (.int .i64 M) := fun z => (hA.below (hD z) hA.lt).m
        have d2 : ∀ z, (f z).cell? ⟨w1.heap.size, 2, none⟩ = some (.int .i64 B) := fun z => (hA.below (hD z) hA.lt).b
        clear hA
        iterate 29 (go_big_quiet_step (first | (go_at_call 118; with_reducible exact toQB hD hE _ (c1 _)) | (go_at_call 33; with_reducible exact toQB hD hE _ (c2 _ (hDw _))) | (go_at_call 88; with_reducible exact toQB hD hE _ (c3 _)) | (go_at_call 119; with_reducible exact toQB hD hE _ (c4 _ (hDw _))) | (go_at_call 120; with_reducible exact toQB hD hE _ (c5 _))))
        refine wpQuiet_nil ?_
        intro _ hw'
        obtain ⟨zq, hw''⟩ := hw'
        subst hw''
        have hB3 := hDw zq
        clear d0 d1 d2
        go_wp2_with (fail)
        go_ret
        exact ⟨by rw [he.out]; rfl, hB3⟩
      | true =>
        cases b4 with
        | false =>
          go_enter Tryz.func80, Tryz.ntmps80
          go_upto_region 1 with (fail)
          rw [show w1.alloc (.cells #[.int .i64 K, .int .i64 M, .int .i64 B] 23) = wb from hwb.symm]
          clear hwb
          refine wp_region_cls (Below wb.heap.size wb) (by kernel_rfl) (by kernel_rfl) (Below.refl _ _).drew ?_
          intro Z f hne hD hE
          have hDw : ∀ z, Below w1.heap.size w1 (f z) := fun z => below_c hb0 (hD z)
          have d0 : ∀ z, (f z).cell? ⟨w1.heap.size, 0, none⟩ = some (.int .i64 K) := fun z => (hA.below (hD z) hA.lt).k
          have d1 : ∀ z, (f z).cell? ⟨w1.heap.size, 1, none⟩ = some (.int .i64 M) := fun z => (hA.below (hD z) hA.lt).m
          have d2 : ∀ z, (f z).cell? ⟨w1.heap.size, 2, none⟩ = some (.int .i64 B) := fun z => (hA.below (hD z) hA.lt).b
          clear hA
          iterate 29 (go_big_quiet_step (first | (go_at_call 118; with_reducible exact toQB hD hE _ (c1 _)) | (go_at_call 33; with_reducible exact toQB hD hE _ (c2 _ (hDw _))) | (go_at_call 88; with_reducible exact toQB hD hE _ (c3 _)) | (go_at_call 119; with_reducible exact toQB hD hE _ (c4 _ (hDw _))) | (go_at_call 120; with_reducible exact toQB hD hE _ (c5 _))))
          refine wpQuiet_nil ?_
          intro _ hw'
          obtain ⟨zq, hw''⟩ := hw'
          subst hw''
          have hB3 := hDw zq
          clear d0 d1 d2
          go_wp2_with (fail)
          go_ret
          exact ⟨by rw [he.out]; rfl, hB3⟩
        | true =>
          cases b5 with
          | false =>
            go_enter Tryz.func80, Tryz.ntmps80
            go_upto_region 1 with (fail)
            rw [show w1.alloc (.cells #[.int .i64 K, .int .i64 M, .int .i64 B] 23) = wb from hwb.symm]
            clear hwb
            refine wp_region_cls (Below wb.heap.size wb) (by kernel_rfl) (by kernel_rfl) (Below.refl _ _).drew ?_
            intro Z f hne hD hE
            have hDw : ∀ z, Below w1.heap.size w1 (f z) := fun z => below_c hb0 (hD z)
            have d0 : ∀ z, (f z).cell? ⟨w1.heap.size, 0, none⟩ = some (.int .i64 K) := fun z => (hA.below (hD z) hA.lt).k
            have d1 : ∀ z, (f z).cell? ⟨w1.heap.size, 1, none⟩ = some (.int .i64 M) := fun z => (hA.below (hD z) hA.lt).m
            have d2 : ∀ z, (f z).cell? ⟨w1.heap.size, 2, none⟩ = some (.int .i64 B) := fun z => (hA.below (hD z) hA.lt).b
            clear hA
            iterate 29 (go_big_quiet_step (first | (go_at_call 118; with_reducible exact toQB hD hE _ (c1 _)) | (go_at_call 33; with_reducible exact toQB hD hE _ (c2 _ (hDw _))) | (go_at_call 88; with_reducible exact toQB hD hE _ (c3 _)) | (go_at_call 119; with_reducible exact toQB hD hE _ (c4 _ (hDw _))) | (go_at_call 120; with_reducible exact toQB hD hE _ (c5 _))))
            refine wpQuiet_nil ?_
            intro _ hw'
            obtain ⟨zq, hw''⟩ := hw'
            subst hw''
            have hB3 := hDw zq
            clear d0 d1 d2
            go_wp2_with (fail)
            go_ret
            exact ⟨by rw [he.out]; rfl, hB3⟩
          | true =>
            go_enter Tryz.func80, Tryz.ntmps80
            go_upto_region 1 with (fail)
            rw [show w1.alloc (.cells #[.int .i64 K, .int .i64 M, .int .i64 B] 23) = wb from hwb.symm]
            clear hwb
            refine wp_region_cls (Below wb.heap.size wb) (by kernel_rfl) (by kernel_rfl) (Below.refl _ _).drew ?_
            intro Z f hne hD hE
            have hDw : ∀ z, Below w1.heap.size w1 (f z) := fun z => below_c hb0 (hD z)
            have d0 : ∀ z, (f z).cell? ⟨w1.heap.size, 0, none⟩ = some (.int .i64 K) := fun z => (hA.below (hD z) hA.lt).k
            have d1 : ∀ z, (f z).cell? ⟨w1.heap.size, 1, none⟩ = some (.int .i64 M) := fun z => (hA.below (hD z) hA.lt).m
            have d2 : ∀ z, (f z).cell? ⟨w1.heap.size, 2, none⟩ = some (.int .i64 B) := fun z => (hA.below (hD z) hA.lt).b
            clear hA
            iterate 29 (go_big_quiet_step (first | (go_at_call 118; with_reducible exact toQB hD hE _ (c1 _)) | (go_at_call 33; with_reducible exact toQB hD hE _ (c2 _ (hDw _))) | (go_at_call 88; with_reducible exact toQB hD hE _ (c3 _)) | (go_at_call 119; with_reducible exact toQB hD hE _ (c4 _ (hDw _))) | (go_at_call 120; with_reducible exact toQB hD hE _ (c5 _))))
            refine wpQuiet_nil ?_
            intro _ hw'
            obtain ⟨zq, hw''⟩ := hw'
            subst hw''
            have hB3 := hDw zq
            clear d0 d1 d2
            go_wp2_with (fail)
            go_ret
            exact ⟨by rw [he.out]; rfl, hB3⟩
end
end Go.Proofs.YtjgafpkpoppcbaaGreatDoor
end
section
namespace Go.Proofs.YtjgafpkpoppcbaaGreatDoor
open Go.RowKit
set_option maxRecDepth 100000
def sidxI (l : List Int) (x : Int) : Int := if x ∈ l then (l.idxOf x : Int) else -1
theorem sidxI_here {l : List Int} {x : Int} {k : Nat} (hk : k < l.length) (h : l[k] = x) (hb : ∀ j (hj : j < l.length), j < k → l[j] ≠ x) : sidxI l x = (k : Int) := by
  have hm : x ∈ l := by rw [← h]; exact List.getElem_mem hk
  unfold sidxI
  rw [if_pos hm]
  have hlt := List.idxOf_lt_length_of_mem hm
  have hg : l[l.idxOf x] = x := List.getElem_idxOf hlt
  have h1 : ¬ l.idxOf x < k := fun z => hb _ hlt z hg
  have h2 : ¬ k < l.idxOf x := fun z => by
    have := List.not_of_lt_findIdx (p := (· == x)) (xs := l) (i := k) z
    simp [h] at this
  omega
theorem sidxI_none {l : List Int} {x : Int} (hb : ∀ j (hj : j < l.length), l[j] ≠ x) : sidxI l x = -1 := if_neg fun hm => by
  obtain ⟨k, hk, h⟩ := List.getElem_of_mem hm
  exact hb k hk h
set_option maxHeartbeats 1000000 in
theorem index_int (v : Value) (l : List Int) (w : World) (hv : Reads w v (l.map (.int .i64))) (x : Int) (hl : l.length ≤ 1000000) :
    Calls Tryz.prog 116 #[v, .int .i64 x] w fun e w' => e = .returned (.int .i64 (sidxI l x)) ∧ w = w' := by
  obtain ⟨va, vc, rfl, hit⟩ := Reads.items hv
  have HIT := Lib.hid hit
  clear hit hv
  go_enter Tryz.func116, Tryz.ntmps116
  go_wp2_with (fail)
  go_loopw [5, 8] (fun _ t wr => ∃ i : Nat, i ≤ l.length ∧ t = .int .i64 (i : Int) ∧ Hid (∀ j (hj : j < l.length), j < i → l[j] ≠ x) ∧ w = wr) (fun _ t _ => l.length - (RowKit.intOf t).toNat)
  case atStart => exact ⟨0, Nat.zero_le _, rfl, Lib.hid (fun j _ hj => absurd hj (Nat.not_lt_zero _)), rfl⟩
  case round =>
    obtain ⟨i, hi, rfl, hb, rfl⟩ := hrel
    by_cases hlt : i < l.length
    · have y1 : (i : Int) < (l.length : Int) := by omega
      obtain ⟨cb, co, rfl, _, hc⟩ := HIT.out i hlt
      have hhere := Lib.hid (fun h => sidxI_here hlt h hb.out)
      have hnext : Hid (l[i] ≠ x → ∀ j (hj : j < l.length), j < i + 1 → l[j] ≠ x) := Lib.hid fun hn j hj hj2 => by
        rcases Nat.lt_succ_iff_lt_or_eq.1 hj2 with h1 | rfl
        · exact hb.out j hj h1
        · exact hn
      generalize hy : l[i] = y at *
      clear hb hy
      by_cases e : y = x
      · have te : (x == y) = true := by rw [e]; simp
        have hf := Lib.hid (hhere.out e)
        clear hhere hnext
        go_wp2_with (fail)
        go_ret
        exact ⟨by rw [hf.out]; rfl, rfl⟩
      · have te : (x == y) = false := by rw [beq_eq_false_iff_ne]; exact fun z => e z.symm
        have hf := Lib.hid (hnext.out e)
        clear hhere hnext
        go_wp2_with (fail)
        go_roundw
        case rel => exact ⟨i + 1, by omega, by go_num, Lib.hid hf.out, by first | rfl | trivial⟩
        case measure => simp [RowKit.intOf]; omega
    · obtain rfl : i = l.length := by omega
      have y1 : ¬ ((l.length : Int) < (l.length : Int)) := by omega
      have hf := Lib.hid (sidxI_none fun j hj => hb.out j hj hj)
      clear hb
      go_wp2_with (fail)
      go_ret
      exact ⟨by rw [hf.out]; rfl, rfl⟩
theorem contains_int (v : Value) (l : List Int) (w : World) (hv : Reads w v (l.map (.int .i64))) (x : Int) (hl : l.length ≤ 1000000) :
    Calls Tryz.prog 74 #[v, .int .i64 x] w fun e w' => e = .returned (.bool (decide (x ∈ l))) ∧ w = w' := by
  have ci := index_int v l w hv x hl
  have he : Hid (decide (0 ≤ sidxI l x) = decide (x ∈ l)) := Lib.hid (by
    unfold sidxI
    by_cases h : x ∈ l
    · rw [if_pos h, decide_eq_true h, decide_eq_true (by omega)]
    · rw [if_neg h, decide_eq_false h]; rfl)
  generalize sidxI l x = y at *
  generalize decide (x ∈ l) = b at *
  clear hv
  go_enter Tryz.func74, Tryz.ntmps74
  go_wp2_with (fail)
  refine ci.mono ?_
  rintro e w2 ⟨rfl, rfl⟩
  go_wp2_with (fail)
  go_ret
  exact ⟨by rw [← he.out]; rfl, rfl⟩
def srightB (l : List Int) (n : Int) : Bool := decide ((∀ x ∈ l, 0 ≤ x ∧ x < n) ∧ l.Nodup)
theorem srightB_no {l : List Int} {n : Int} {i : Nat} (hi : i < l.length) (h : ¬ (0 ≤ l[i] ∧ l[i] < n) ∨ l[i] ∈ l.take i) : srightB l n = false := decide_eq_false fun ⟨h1, h2⟩ => by
  rcases h with h | h
  · exact h (h1 _ (List.getElem_mem hi))
  · have e : l = l.take i ++ l[i] :: l.drop (i + 1) := by rw [← List.drop_eq_getElem_cons hi, List.take_append_drop]
    rw [e] at h2
    exact (List.nodup_append.1 h2).2.2 _ h _ List.mem_cons_self rfl
set_option maxHeartbeats 2000000 in
theorem sright_any (v : Value) (l : List Int) (w : World) (hv : Reads w v (l.map (.int .i64))) (hcap : capOk v) (n : Int) (hl : l.length ≤ 1000000) :
    Calls Tryz.prog 32 #[v, .int .i64 n] w fun e w' => e = .returned (.bool (srightB l n)) ∧ w = w' := by
  obtain ⟨i0, hi0, hy0, hy1, hy2⟩ := info_parts Tryz.infoI
  have HTO : Hid (∀ m, m ≤ l.length → ∃ v2, (∀ W, (Instr.slice 26 v none (some (.int .i64 (m : Int))) none).run Tryz.prog W = .ok v2 W) ∧ Reads w v2 ((l.take m).map (.int .i64))) := Lib.hid fun m hm => by
    obtain ⟨v2, h1, h2⟩ := Reads.to_run (P := Tryz.prog) (T := 26) Tryz.underlying26 hi0 hy1 hv hcap (m := m) (by rw [List.length_map]; exact hm)
    exact ⟨v2, h1, by rw [List.map_take]; exact h2⟩
  obtain ⟨va, vc, rfl, hit⟩ := Reads.items hv
  have HIT := Lib.hid hit
  clear hit hv hcap
  go_enter Tryz.func32, Tryz.ntmps32
  go_wp2_with (fail)
  go_loopw [5, 6, 9] (fun _ _ t wr => ∃ i : Nat, i ≤ l.length ∧ t = .int .i64 (i : Int) ∧ Hid ((∀ j (hj : j < l.length), j < i → 0 ≤ l[j] ∧ l[j] < n) ∧ (l.take i).Nodup) ∧ w = wr) (fun _ _ t _ => l.length - (RowKit.intOf t).toNat)
  case atStart => exact ⟨0, Nat.zero_le _, rfl, Lib.hid ⟨fun j _ hj => absurd hj (Nat.not_lt_zero _), by simp⟩, rfl⟩
  case round =>
    obtain ⟨i, hi, rfl, hb, rfl⟩ := hrel
    by_cases hlt : i < l.length
    · have y1 : (i : Int) < (l.length : Int) := by omega
      obtain ⟨cb, co, rfl, _, hc⟩ := HIT.out i hlt
      have hno : Hid (¬ (0 ≤ l[i] ∧ l[i] < n) ∨ l[i] ∈ l.take i → srightB l n = false) := Lib.hid (srightB_no hlt)
      have hnext : Hid ((0 ≤ l[i] ∧ l[i] < n) → l[i] ∉ l.take i → (∀ j (hj : j < l.length), j < i + 1 → 0 ≤ l[j] ∧ l[j] < n) ∧ (l.take (i + 1)).Nodup) := Lib.hid fun h1 h2 => by
        refine ⟨fun j hj hj2 => ?_, ?_⟩
        · rcases Nat.lt_succ_iff_lt_or_eq.1 hj2 with h3 | rfl
          · exact hb.out.1 j hj h3
          · exact h1
        · rw [List.take_succ_eq_append_getElem hlt]
          exact List.nodup_append.2 ⟨hb.out.2, by simp, fun a ha b hb2 e => h2 (by rw [List.mem_singleton] at hb2; rw [← hb2, ← e]; exact ha)⟩
      obtain ⟨v2, hsl, hr2⟩ := HTO.out i hi
      have cc := contains_int v2 (l.take i) w hr2 l[i] (by rw [List.length_take]; omega)
      obtain ⟨m, hm⟩ : ∃ m, decide (l[i] ∈ l.take i) = m := ⟨_, rfl⟩
      rw [hm] at cc
      obtain ⟨y, hy⟩ : ∃ y, l[i] = y := ⟨_, rfl⟩
      rw [hy] at hno hnext cc hc hm
      clear hb hr2 hy
      by_cases h1 : y < 0
      · have hf := Lib.hid (hno.out (.inl (by omega)))
        clear hno hnext cc hm
        go_wp2_with (fail)
        go_ret
        exact ⟨by rw [hf.out]; rfl, rfl⟩
      · by_cases h2 : n ≤ y
        · have hf := Lib.hid (hno.out (.inl (by omega)))
          clear hno hnext cc hm
          go_wp2_with (fail)
          go_ret
          exact ⟨by rw [hf.out]; rfl, rfl⟩
        · cases m with
          | true =>
            have hf := Lib.hid (hno.out (.inr (of_decide_eq_true hm)))
            clear hno hnext hm
            go_wp2_with (fail)
            refine cc.mono ?_
            rintro e w2 ⟨rfl, rfl⟩
            go_wp2_with (fail)
            go_ret
            exact ⟨by rw [hf.out]; rfl, rfl⟩
          | false =>
            have hf := Lib.hid (hnext.out ⟨by omega, by omega⟩ (of_decide_eq_false hm))
            clear hno hnext hm
            go_wp2_with (fail)
            refine cc.mono ?_
            rintro e w2 ⟨rfl, rfl⟩
            go_wp2_with (fail)
            go_roundw
            case rel => exact ⟨i + 1, by omega, by go_num, Lib.hid hf.out, by first | rfl | trivial⟩
            case measure => simp [RowKit.intOf]; omega
    · obtain rfl : i = l.length := by omega
      have y1 : ¬ ((l.length : Int) < (l.length : Int)) := by omega
      have hf : Hid (srightB l n = true) := Lib.hid (decide_eq_true ⟨fun x hx => by
        obtain ⟨j, hj, e⟩ := List.getElem_of_mem hx
        rw [← e]; exact hb.out.1 j hj hj, by have := hb.out.2; rwa [List.take_length] at this⟩)
      clear hb
      go_wp2_with (fail)
      go_ret
      exact ⟨by rw [hf.out]; rfl, rfl⟩
def allowB (n : Nat) (R : Rk) (id K M B : Int) (l : List Int) (N : Int) : Bool := sfitsB n R id K M B && (srightB l (n : Int) && (decide (0 ≤ N) && decide (N < gStripes K M B)))
section
variable {w w1 : World} {S : Nat → Prop} {k n : Nat} {R : Rk}
set_option maxHeartbeats 4000000 in
theorem allow_any (h : RA w S w1 k n R) (id K M B : Int) (v : Value) (l : List Int) (hv : Reads w1 v (l.map (.int .i64))) (hcap : capOk v) (hl : l.length ≤ 1000000) (N : Int) : Calls Tryz.prog 42 #[.pointer (some ⟨k, 0, none⟩), .int .i64 id, .agg #[.int .i64 K, .int .i64 M, .int .i64 B], v, .int .i64 N] w1 fun e w' => e = .returned (.bool (allowB n R id K M B l N)) ∧ Below w1.heap.size w1 w' := by
  obtain ⟨wb, hwb⟩ : ∃ wb, wb = w1.alloc (.cells #[.int .i64 K, .int .i64 M, .int .i64 B] 23) := ⟨_, rfl⟩
  have hb0 : Below w1.heap.size w1 wb := by rw [hwb]; exact (Below.refl _ _).alloc (Nat.le_refl _) _
  have hA : SGeoAt wb w1.heap.size K M B := by rw [hwb]; exact SGeoAt.new w1 K M B
  have cF : ∀ W, Below w1.heap.size w1 W → Calls Tryz.prog 80 #[.pointer (some ⟨k, 0, none⟩), .int .i64 id, .agg #[.int .i64 K, .int .i64 M, .int .i64 B]] W fun e w' => e = .returned (.bool (sfitsB n R id K M B)) ∧ Below W.heap.size W w' := fun W hW => sfits_any (h.after hW) id K M B
  have cS : ∀ W, Below w1.heap.size w1 W → Calls Tryz.prog 33 #[.pointer (some ⟨k, 0, none⟩)] W fun e w' => e = .returned (.int .i64 (n : Int)) ∧ W = w' := fun W hW => rt_slots (h.after hW)
  have cR : ∀ W, Below w1.heap.size w1 W → Calls Tryz.prog 32 #[v, .int .i64 (n : Int)] W fun e w' => e = .returned (.bool (srightB l (n : Int))) ∧ W = w' := fun W hW => sright_any v l W (hv.below hW) hcap (n : Int) hl
  have cT : ∀ W, Calls Tryz.prog 81 #[.agg #[.int .i64 K, .int .i64 M, .int .i64 B]] W fun e w' => e = .returned (.int .i64 (gStripes K M B)) ∧ Below W.heap.size W w' := fun W => stripes_any K M B W
  have he : Hid (allowB n R id K M B l N = (sfitsB n R id K M B && (srightB l (n : Int) && (decide (0 ≤ N) && decide (N < gStripes K M B))))) := Lib.hid rfl
  generalize allowB n R id K M B l N = X at *
  generalize gStripes K M B = s at *
  generalize sfitsB n R id K M B = b1 at *
  generalize srightB l (n : Int) = b2 at *
  obtain ⟨b3, t3⟩ : ∃ b, decide (0 ≤ N) = b := ⟨_, rfl⟩
  obtain ⟨b4, t4⟩ : ∃ b, decide (N < s) = b := ⟨_, rfl⟩
  rw [t3, t4] at he
  clear h hv hcap
  cases b1 with
  | false =>
    go_enter Tryz.func42, Tryz.ntmps42
    go_wp2_with (fail)
    rw [show w1.alloc (.cells #[.int .i64 K, .int .i64 M, .int .i64 B] 23) = wb from hwb.symm]
    clear hwb
    refine (cF wb hb0).mono ?_
    rintro e w2 ⟨rfl, b2⟩
    have h2 := below_c hb0 b2
    have hA2 := hA.below b2 hA.lt
    clear hA2 hA
    go_wp2_with (fail)
    go_ret
    exact ⟨by rw [he.out]; rfl, h2⟩
  | true =>
    cases b2 with
    | false =>
      go_enter Tryz.func42, Tryz.ntmps42
      go_wp2_with (fail)
      rw [show w1.alloc (.cells #[.int .i64 K, .int .i64 M, .int .i64 B] 23) = wb from hwb.symm]
      clear hwb
      refine (cF wb hb0).mono ?_
      rintro e w2 ⟨rfl, b2⟩
      have h2 := below_c hb0 b2
      have hA2 := hA.below b2 hA.lt
      obtain ⟨e0, e1, e2, elt⟩ := hA2
      go_wp2_with (fail)
      refine (cS w2 h2).mono ?_
      rintro e w3 ⟨rfl, rfl⟩
      go_wp2_with (fail)
      refine (cR _ h2).mono ?_
      rintro e w3 ⟨rfl, rfl⟩
      go_wp2_with (fail)
      go_ret
      exact ⟨by rw [he.out]; rfl, h2⟩
    | true =>
      cases b3 with
      | false =>
        go_enter Tryz.func42, Tryz.ntmps42
        go_wp2_with (fail)
        rw [show w1.alloc (.cells #[.int .i64 K, .int .i64 M, .int .i64 B] 23) = wb from hwb.symm]
        clear hwb
        refine (cF wb hb0).mono ?_
        rintro e w2 ⟨rfl, b2⟩
        have h2 := below_c hb0 b2
        have hA2 := hA.below b2 hA.lt
        obtain ⟨e0, e1, e2, elt⟩ := hA2
        go_wp2_with (fail)
        refine (cS w2 h2).mono ?_
        rintro e w3 ⟨rfl, rfl⟩
        go_wp2_with (fail)
        refine (cR _ h2).mono ?_
        rintro e w3 ⟨rfl, rfl⟩
        go_wp2_with (fail)
        go_ret
        exact ⟨by rw [he.out]; rfl, h2⟩
      | true =>
        go_enter Tryz.func42, Tryz.ntmps42
        go_wp2_with (fail)
        rw [show w1.alloc (.cells #[.int .i64 K, .int .i64 M, .int .i64 B] 23) = wb from hwb.symm]
        clear hwb
        refine (cF wb hb0).mono ?_
        rintro e w2 ⟨rfl, b2⟩
        have h2 := below_c hb0 b2
        have hA2 := hA.below b2 hA.lt
        obtain ⟨e0, e1, e2, elt⟩ := hA2
        go_wp2_with (fail)
        refine (cS w2 h2).mono ?_
        rintro e w3 ⟨rfl, rfl⟩
        go_wp2_with (fail)
        refine (cR _ h2).mono ?_
        rintro e w3 ⟨rfl, rfl⟩
        go_wp2_with (fail)
        refine (cT _).mono ?_
        rintro e w4 ⟨rfl, b4⟩
        have h4 := below_c h2 b4
        go_wp2_with (fail)
        go_ret
        exact ⟨by rw [he.out]; rfl, h4⟩
end
end Go.Proofs.YtjgafpkpoppcbaaGreatDoor
end
section
namespace Go.Proofs.YtjgafpkpoppcbaaGreatDoor
open Go.RowKit
set_option maxRecDepth 100000
def dataB (K : Int) (data : List ByteArray) : Bool := decide ((data.length : Int) = K) && data.all fun s => decide (s.size = 120)
def encSL (K M : Int) (data : List ByteArray) : List ByteArray := if dataB K data = true then data ++ encL data M else []
def encSE (K M : Int) (data : List ByteArray) : Int := if dataB K data = true then encE data M else 110
theorem dataB_len {K : Int} {data : List ByteArray} (h : (data.length : Int) ≠ K) : dataB K data = false := by unfold dataB; rw [decide_eq_false h]; rfl
theorem dataB_bad {K : Int} {data : List ByteArray} {i : Nat} (hi : i < data.length) (h : data[i].size ≠ 120) : dataB K data = false := by
  unfold dataB
  have : (data.all fun s => decide (s.size = 120)) = false := by
    rw [List.all_eq_false]
    exact ⟨data[i], List.getElem_mem hi, by rw [decide_eq_false h]; decide⟩
  rw [this, Bool.and_false]
theorem dataB_good {K : Int} {data : List ByteArray} (h : (data.length : Int) = K) (hs : ∀ i (hi : i < data.length), data[i].size = 120) : dataB K data = true := by
  unfold dataB
  rw [decide_eq_true h, Bool.true_and, List.all_eq_true]
  intro s hm
  obtain ⟨i, hi, e⟩ := List.getElem_of_mem hm
  rw [← e]; exact decide_eq_true (hs i hi)
theorem encL_len (data : List ByteArray) (m : Int) : (encL data m).length ≤ 8 := by
  unfold encL
  by_cases h : encB data m = true
  · rw [if_pos h]
    have := encB_facts h
    unfold mulL
    split
    · simp [mkM]; omega
    · simp
  · rw [if_neg h]; simp
theorem Own.down {w : World} {B B' : Nat} {E : TypeId} {v : Value} {xs : List Value} (h : Own w B E v xs) (hB : B' ≤ B) : Own w B' E v xs := by
  refine ⟨h.o.1, ?_⟩
  rcases h.o.2 with h1 | ⟨g, cap, cur, h1, h2, h3, h4⟩
  · exact .inl h1
  · exact .inr ⟨g, cap, cur, h1, Nat.le_trans hB h2, h3, h4⟩
theorem encS_bad {w W : World} {K M : Int} {data : List ByteArray} (h : Hid (dataB K data = false)) (hb : Below w.heap.size w W) : GivesL w (encSL K M data) (encSE K M data) (.returned (.tuple #[.slice none 0 0, .int .i64 110])) W :=
  ⟨.slice none 0 0, by unfold encSE; rw [h.out]; rfl, by unfold encSL; rw [h.out]; exact Own.nil _ _ _, hb⟩
set_option maxHeartbeats 2000000 in
theorem sencode_any (K M B : Int) (v : Value) (data : List ByteArray) (w : World) (ht : Tabs w) (hv : Reads w v (tx data)) (hF : Fits data) (hl : data.length ≤ 1000000) : Calls Tryz.prog 43 #[.agg #[.int .i64 K, .int .i64 M, .int .i64 B], v] w (GivesL w (encSL K M data) (encSE K M data)) := by
  obtain ⟨i0, hi0, hz0, hz1, hz2⟩ := info_parts Tryz.infoS
  have hbw : ∀ W, Below w.heap.size (w.alloc (.cells #[.int .i64 K, .int .i64 M, .int .i64 B] 23)) W → Below w.heap.size w W := fun W h => ((Below.refl _ w).alloc (Nat.le_refl _) (.cells #[.int .i64 K, .int .i64 M, .int .i64 B] 23)).trans h
  have hA := SGeoAt.new w K M B
  have CE : Hid (∀ W, Below w.heap.size w W → Calls Tryz.prog 82 #[v, .int .i64 M] W (GivesL W (encL data M) (encE data M))) := Lib.hid fun W hW => encode_any v data M W (ht.below hW ht.two) (hv.below hW) hF
  have HSZ := Lib.hid hF.m
  obtain ⟨va, vc, rfl, hit⟩ := Reads.items hv
  have HIT := Lib.hid hit
  clear hv hit ht hF
  by_cases hK : (data.length : Int) = K
  · have t1 : ((data.length : Int) != K) = false := by rw [hK]; simp
    have HK := Lib.hid hK
    clear hK
    go_enter Tryz.func43, Tryz.ntmps43
    obtain ⟨e0, e1, e2, elt⟩ := hA
    go_wp2_with (fail)
    have hbS : Below w.heap.size w (w.alloc (.cells #[.int .i64 K, .int .i64 M, .int .i64 B] 23)) := (Below.refl _ w).alloc (Nat.le_refl _) _
    generalize hW0 : w.alloc (.cells #[.int .i64 K, .int .i64 M, .int .i64 B] 23) = W0 at *
    clear hW0
    go_loopw [6, 8, 18] (fun u _ t wr => ∃ i : Nat, i ≤ data.length ∧ t = .int .i64 (i : Int) ∧ Hid (∀ j (hj : j < data.length), j < i → data[j].size = 120) ∧ Own wr W0.heap.size 9 u (tx (data.take i)) ∧ Below W0.heap.size W0 wr) (fun _ _ t _ => data.length - (RowKit.intOf t).toNat)
    case atStart => exact ⟨0, Nat.zero_le _, rfl, Lib.hid (fun j _ hj => absurd hj (Nat.not_lt_zero _)), Own.nil _ _ _, Below.refl _ _⟩
    case round =>
      obtain ⟨i, hi, rfl, hb, ho, hB⟩ := hrel
      rename World => wr
      have hWr := hbS.trans (hB.mono hbS.size)
      by_cases hlt : i < data.length
      · have y1 : (i : Int) < (data.length : Int) := by omega
        obtain ⟨cb, co, rfl, hcb, hc⟩ := HIT.out i hlt
        have c1 : wr.cell? ⟨cb, co + i, none⟩ = _ := (hWr.cell (p := ⟨cb, co + i, none⟩) hcb).trans hc
        have hbad : Hid (data[i].size ≠ 120 → dataB K data = false) := Lib.hid (dataB_bad hlt)
        have hsm : data[i].size ≤ 140737488355328 := by
          have := HSZ.out i hlt
          rwa [List.getD_eq_getElem?_getD, List.getElem?_eq_getElem hlt] at this
        obtain ⟨v8, w8, hap, o8, b8, _⟩ := Own.pushA (P := Tryz.prog) (T := 39) Tryz.underlying39 hi0 hz0 hz1 hz2 rfl ho (.string data[i]) rfl hB.size (by rw [List.length_map, List.length_take]; omega) (by rw [List.length_map, List.length_take]; omega)
        have hnx : Hid (tx (data.take i) ++ [.string data[i]] = tx (data.take (i + 1))) := Lib.hid (by
          show List.map _ _ ++ _ = List.map _ _
          rw [List.take_succ_eq_append_getElem hlt, List.map_append]; rfl)
        have hnb : Hid (data[i].size = 120 → ∀ j (hj : j < data.length), j < i + 1 → data[j].size = 120) := Lib.hid fun h j hj hj2 => by
          rcases Nat.lt_succ_iff_lt_or_eq.1 hj2 with h3 | rfl
          · exact hb.out j hj h3
          · exact h
        have HO8 := Lib.hid o8
        have HB8 := Lib.hid (hB.trans b8)
        obtain ⟨y, hy⟩ : ∃ y, data[i] = y := ⟨_, rfl⟩
        rw [hy] at hbad hsm hap hnx hnb c1 HO8
        have HWr := Lib.hid hWr
        clear hb ho hy o8 hc hWr b8 hB
        by_cases h1 : y.size = 120
        · have t2 : ((y.size : Int) != 120) = false := by rw [h1]; rfl
          have hf := Lib.hid (hnb.out h1)
          clear hnb hbad h1
          go_wp2_with (at_builtin; refine wpList_append_run hap _ _ rfl rfl rfl rfl rfl ?_)
          go_roundw
          case rel => exact ⟨i + 1, by omega, by go_num, Lib.hid hf.out, by rw [← hnx.out]; exact HO8.out, HB8.out⟩
          case measure => simp [RowKit.intOf]; omega
        · have t2 : ((y.size : Int) != 120) = true := by rw [bne_iff_ne]; omega
          have hf := Lib.hid (hbad.out h1)
          clear hnb hbad h1 hap
          go_wp2_with (fail)
          go_ret2
          exact encS_bad hf HWr.out
      · obtain rfl : i = data.length := by omega
        have y1 : ¬ ((data.length : Int) < (data.length : Int)) := by omega
        have hg := Lib.hid (dataB_good HK.out (fun j hj => hb.out j hj hj))
        rw [List.take_length] at ho
        have cE := CE.out wr hWr
        have c1 : wr.cell? ⟨w.heap.size, 1, none⟩ = some (.int .i64 M) := (hB.cell (p := ⟨w.heap.size, 1, none⟩) elt).trans e1
        have hel := encL_len data M
        have HSW := hbS.size
        have HO := Lib.hid ho
        have HWr := Lib.hid hWr
        have HBr := hB.size
        clear hb ho hWr e0 e1 e2 hB
        go_wp2_with (fail)
        refine cE.mono ?_
        rintro e w3 ⟨vp, rfl, op, bp⟩
        obtain ⟨v4, w4, hap, o4, b4, _⟩ := Own.pushAll (P := Tryz.prog) (T := 39) Tryz.underlying39 hi0 hz0 hz1 hz2 rfl (HO.out.after bp) op.reads (tx_one _) (Nat.le_trans HBr bp.size) (by rw [List.length_map, List.length_map]; omega) (by rw [List.length_map, List.length_map]; omega)
        have hfin : Hid (Own w4 w.heap.size 9 v4 (tx (data ++ encL data M)) ∧ Below w.heap.size w w4) := Lib.hid ⟨by
          have := o4.down HSW
          simpa [tx] using this, (HWr.out.trans (bp.mono HWr.out.size)).trans (b4.mono HSW)⟩
        clear o4 b4 op bp cE c1
        go_wp2_with (at_builtin; refine wpList_append_run hap _ _ rfl rfl rfl rfl rfl ?_)
        go_ret2
        exact ⟨v4, by unfold encSE; rw [hg.out]; rfl, by unfold encSL; rw [hg.out]; exact hfin.out.1, hfin.out.2⟩
  · have t1 : ((data.length : Int) != K) = true := by rw [bne_iff_ne]; exact hK
    have hf := Lib.hid (dataB_len hK)
    clear hK
    go_enter Tryz.func43, Tryz.ntmps43
    obtain ⟨e0, e1, e2, elt⟩ := hA
    go_wp2_with (fail)
    go_ret2
    exact encS_bad hf (hbw _ (Below.refl _ _))
end Go.Proofs.YtjgafpkpoppcbaaGreatDoor
end
section
namespace Go.Proofs.YtjgafpkpoppcbaaGreatDoor
open Go.RowKit
set_option maxRecDepth 100000
def wr1 (n : Nat) (id K M B N : Int) (sh : List ByteArray) (R : Rk) (x : Int) : Rk × Int := wsM n id x R (gSector K M B N).toNat [sh.getD (gIndex K M B N x).toNat ⟨#[]⟩]
def fl1 (n : Nat) (R : Rk) (x : Int) : Rk × Int := (flR n R x, flRE n R x)
def stW (n : Nat) (R : Rk) (id K M B : Int) (l : List Int) (N : Int) (data : List ByteArray) : Rk × List Int × Int :=
  if allowB n R id K M B l N = true then (if encSE K M data = 0 then ea (wr1 n id K M B N (encSL K M data)) R [] l else (R, [], encSE K M data)) else (R, [], 1)
def stF (n : Nat) (R : Rk) (l : List Int) : Rk × List Int × Int := if srightB l (n : Int) = true then ea (fl1 n) R [] l else (R, [], 1)
theorem wr1_ok {n : Nat} {id K M B N : Int} {sh : List ByteArray} (R : Rk) (x : Int) (c : Nat) (h : ROk n R c) : ROk n (wr1 n id K M B N sh R x).1 (c + 1) := wsM_ok _ _ _ c h (by simp)
theorem fl1_ok {n : Nat} (R : Rk) (x : Int) (c : Nat) (h : ROk n R c) : ROk n (fl1 n R x).1 (c + 1) := h.fl x
section
variable {w w1 w4 wr w' : World} {S : Nat → Prop} {k n : Nat} {R : Rk} {E : TypeId} {v : Value} {xs : List Value}
theorem RA.drewB (h : RA w S w1 k n R) (hb : Below w1.heap.size w1 w4) : RA w S w4 k n R := h.after hb
theorem ROwn.from (hb : Below w1.heap.size w1 w4) (h : ROwn w S w4 k n R E v xs wr) : ROwn w S w1 k n R E v xs wr := by
  obtain ⟨S', s1, h1, o, a⟩ := h
  exact ⟨S', (Stp.quiet hb).trans s1, h1, o.down hb.size, a⟩
theorem EDoes.from (hb : Below w1.heap.size w1 w4) {X : Rk × List Int × Int} {e : Ending} (h : EDoes w S w4 k n X e w') : EDoes w S w1 k n X e w' := by
  obtain ⟨v, e1, h1⟩ := h
  exact ⟨v, e1, h1.from hb⟩
theorem edoes_no (h : RA w S w1 k n R) (hb : Below w1.heap.size w1 w4) (E : Int) : EDoes w S w1 k n (R, [], E) (.returned (.tuple #[.slice none 0 0, .int .i64 E])) w4 :=
  ⟨_, rfl, ROwn.nil ((RNow.start h).after hb) 3⟩
set_option maxHeartbeats 4000000 in
theorem stf_any (h : RA w S w1 k n R) (c : Nat) (hk : ROk n R c) (vl : Value) (l : List Int) (hv : Reads w1 vl (l.map (.int .i64))) (hcap : capOk vl) (hvS : l ≠ [] → ∀ q, vl.ownBlock = some q → ¬ S q) (hl : l.length ≤ 1000000) (hc : c + l.length ≤ 1000000000000) :
    Calls Tryz.prog 5 #[.pointer (some ⟨k, 0, none⟩), vl] w1 (EDoes w S w1 k n (stF n R l)) := by
  have cS := rt_slots h
  have cR := sright_any vl l w1 hv hcap (n : Int) hl
  have hmf : ∀ (fn : Fn) (first cap : Array Value) (w : World), (Instr.makeFunc fn first cap).run Tryz.prog w = .ok (.func fn first cap) w := fun _ _ _ _ => rfl
  by_cases hR : srightB l (n : Int) = true
  · have cE := each_flush h 1 c hk (fl1 n) fl1_ok vl l hv hvS hl (by rw [Nat.one_mul]; exact hc) (fun x _ S' R' wr hA _ hk2 => rt_flush hA x (hk2.le (by omega)))
    have he : Hid (stF n R l = ea (fl1 n) R [] l) := Lib.hid (by unfold stF; rw [if_pos hR])
    rw [hR] at cR
    rw [he.out]
    generalize ea (fl1 n) R [] l = X at *
    clear he hR h hv hvS hcap hk
    go_enter Tryz.func5, Tryz.ntmps5
    go_wp2_with (fail)
    refine cS.mono ?_
    rintro e w2 ⟨rfl, rfl⟩
    go_wp2_with (fail)
    refine cR.mono ?_
    rintro e w2 ⟨rfl, rfl⟩
    go_wp2_with (fail)
    refine cE.mono ?_
    rintro e w3 ⟨v3, rfl, h3⟩
    have H3 := Lib.hid h3
    clear h3 cE cS cR
    go_wp2_with (fail)
    go_ret2
    exact ⟨v3, rfl, H3.out⟩
  · have he : Hid (stF n R l = (R, [], 1)) := Lib.hid (by unfold stF; rw [if_neg hR])
    rw [Bool.not_eq_true] at hR
    rw [hR] at cR
    rw [he.out]
    have HA := Lib.hid h
    clear he hR h hv hvS hcap hk
    go_enter Tryz.func5, Tryz.ntmps5
    go_wp2_with (fail)
    refine cS.mono ?_
    rintro e w2 ⟨rfl, rfl⟩
    go_wp2_with (fail)
    refine cR.mono ?_
    rintro e w2 ⟨rfl, rfl⟩
    go_wp2_with (fail)
    go_ret2
    exact edoes_no HA.out (Below.refl _ _) 1
theorem allow_facts {id K M B N : Int} {l : List Int} (h : allowB n R id K M B l N = true) : gR K M B = true ∧ (n : Int) = gSlots K M B ∧ gSectors K M B ≤ (szK R : Int) ∧ (1 ≤ id ∧ id ≤ 65535) ∧ ((∀ x ∈ l, 0 ≤ x ∧ x < (n : Int)) ∧ l.Nodup) ∧ 0 ≤ N ∧ N < gStripes K M B := by
  unfold allowB sfitsB srightB at h
  simp only [Bool.and_eq_true, decide_eq_true_iff, beq_iff_eq] at h
  obtain ⟨⟨h1, h2, h3, h4, h5⟩, h6, h7, h8⟩ := h
  exact ⟨h3, h4, h5, ⟨h1, h2⟩, h6, h7, h8⟩
theorem index_nat {id K M B N : Int} {l : List Int} (h : allowB n R id K M B l N = true) {x : Int} (hx : x ∈ l) : ∃ i : Nat, gIndex K M B N x = (i : Int) ∧ i < n := by
  obtain ⟨h1, h2, h3, h4, ⟨h5, _⟩, h6, h7⟩ := allow_facts h
  obtain ⟨x0, x1⟩ := h5 x hx
  rw [h2] at x1
  have hkm := k_cases h1
  rw [index_eq h6 h7 x0 x1, ← slots_eq h1, ← h2]
  have hn : (0 : Int) < (n : Int) := by rw [h2, slots_eq h1]; omega
  have := Int.emod_nonneg (x + (n : Int) - N % (n : Int)) (by omega : (n : Int) ≠ 0)
  have := Int.emod_lt_of_pos (x + (n : Int) - N % (n : Int)) hn
  exact ⟨((x + (n : Int) - N % (n : Int)) % (n : Int)).toNat, by omega, by omega⟩
theorem sector_nat {id K M B N : Int} {l : List Int} (h : allowB n R id K M B l N = true) : ∃ a : Nat, gSector K M B N = (a : Int) ∧ a ≤ 1000 ∧ a < szK R := by
  obtain ⟨h1, h2, h3, h4, h5, h6, h7⟩ := allow_facts h
  obtain ⟨k1, m1, b1, b2⟩ := k_cases h1
  rw [sector_eq h1 h6 h7]
  rw [sectors_eq h1] at h3
  rw [stripes_eq h1] at h7
  have hd := div_rng (K := K) (B := B) (by omega) ⟨b1, b2⟩
  exact ⟨(4 + 32 * K + N).toNat, by omega, by omega, by omega⟩
end
end Go.Proofs.YtjgafpkpoppcbaaGreatDoor
end
section
namespace Go.Proofs.YtjgafpkpoppcbaaGreatDoor
open Go.RowKit
set_option maxRecDepth 100000
theorem Reads.kept {w w' : World} {v : Value} {xs : List Value} (h : Reads w v xs) (hs : w.heap.size ≤ w'.heap.size) (e : ∀ q, v.ownBlock = some q → q < w.heap.size → w'.heap[q]? = w.heap[q]?) : Reads w' v xs := by
  rcases h with h | ⟨b, off, cap, h1, h2, h3⟩
  · exact .inl h
  · exact .inr ⟨b, off, cap, h1, Nat.lt_of_lt_of_le h2 hs, fun i hi => (cell_of_heap (e b (by rw [h1]; rfl) h2) (off + i)).trans (h3 i hi)⟩
theorem data_rect {k : Nat} {data : List ByteArray} (h : dataB (k : Int) data = true) : Rect data k 120 := by
  unfold dataB at h
  simp only [Bool.and_eq_true, decide_eq_true_iff, List.all_eq_true] at h
  refine ⟨by omega, fun i hi => ?_⟩
  have hi' : i < data.length := by omega
  rw [List.getD_eq_getElem?_getD, List.getElem?_eq_getElem hi']
  exact h.2 _ (List.getElem_mem hi')
theorem enc_shards {k m : Nat} {B : Int} {data : List ByteArray} (hg : gR (k : Int) (m : Int) B = true) (hd : dataB (k : Int) data = true) : encSE (k : Int) (m : Int) data = 0 ∧ encSL (k : Int) (m : Int) data = wordL data k m ∧ Rect (wordL data k m) (k + m) 120 := by
  obtain ⟨k1, m1, _⟩ := k_cases hg
  have hr := data_rect hd
  obtain ⟨e1, e2, e3⟩ := enc_good (m := m) hr (by omega) (by omega) (by omega) (by omega) (by decide) (by decide)
  refine ⟨by unfold encSE; rw [if_pos hd, e2], by unfold encSL; rw [if_pos hd, e1]; rfl, word_rect hr (by omega) (by omega) (by omega) (by omega) (by decide) (by decide)⟩
theorem enc_right {n : Nat} {K M B : Int} {data : List ByteArray} (hg : gR K M B = true) (hn : (n : Int) = gSlots K M B) (he : encSE K M data = 0) : (encSL K M data).length = n ∧ ∀ i (hi : i < (encSL K M data).length), (encSL K M data)[i].size = 120 := by
  have hkm := k_cases hg
  obtain ⟨k, rfl⟩ := Int.eq_ofNat_of_zero_le (show 0 ≤ K by omega)
  obtain ⟨m, rfl⟩ := Int.eq_ofNat_of_zero_le (show 0 ≤ M by omega)
  have hd : dataB (k : Int) data = true := by
    cases h : dataB (k : Int) data with
    | true => rfl
    | false => unfold encSE at he; rw [h] at he; cases he
  obtain ⟨_, e2, e3⟩ := enc_shards hg hd
  rw [slots_eq hg] at hn
  rw [e2]
  refine ⟨by rw [e3.l]; omega, fun i hi => ?_⟩
  have := e3.s i (by rw [e3.l] at hi; exact hi)
  rwa [List.getD_eq_getElem?_getD, List.getElem?_eq_getElem hi] at this
theorem four4 (w : World) (a b c d : Obj) : ((((w.alloc a).alloc b).alloc c).alloc d).heap[w.heap.size]? = some a ∧ ((((w.alloc a).alloc b).alloc c).alloc d).heap[w.heap.size + 1]? = some b ∧ ((((w.alloc a).alloc b).alloc c).alloc d).heap[w.heap.size + 1 + 1]? = some c ∧ ((((w.alloc a).alloc b).alloc c).alloc d).heap[w.heap.size + 1 + 1 + 1]? = some d ∧ ((((w.alloc a).alloc b).alloc c).alloc d).heap.size = w.heap.size + 1 + 1 + 1 + 1 ∧ Below w.heap.size w ((((w.alloc a).alloc b).alloc c).alloc d) := by
  have e1 : (w.alloc a).heap.size = w.heap.size + 1 := by simp
  have e2 : ((w.alloc a).alloc b).heap.size = w.heap.size + 1 + 1 := by simp
  have e3 : (((w.alloc a).alloc b).alloc c).heap.size = w.heap.size + 1 + 1 + 1 := by simp
  have f1 := heap_alloc_new w a
  have f2 := heap_alloc_new (w.alloc a) b
  have f3 := heap_alloc_new ((w.alloc a).alloc b) c
  have f4 := heap_alloc_new (((w.alloc a).alloc b).alloc c) d
  rw [e1] at f2
  rw [e2] at f3
  rw [e3] at f4
  have b1 : Below w.heap.size w (w.alloc a) := (Below.refl _ _).alloc (Nat.le_refl _) _
  have b2 : Below (w.alloc a).heap.size (w.alloc a) ((w.alloc a).alloc b) := (Below.refl _ _).alloc (Nat.le_refl _) _
  have b3 : Below ((w.alloc a).alloc b).heap.size ((w.alloc a).alloc b) (((w.alloc a).alloc b).alloc c) := (Below.refl _ _).alloc (Nat.le_refl _) _
  have b4 : Below (((w.alloc a).alloc b).alloc c).heap.size (((w.alloc a).alloc b).alloc c) ((((w.alloc a).alloc b).alloc c).alloc d) := (Below.refl _ _).alloc (Nat.le_refl _) _
  have b34 := b3.trans (b4.mono b3.size)
  have b24 := b2.trans (b34.mono b2.size)
  exact ⟨(b24.block _ (by omega)).trans f1, (b34.block _ (by omega)).trans f2, (b4.block _ (by omega)).trans f3, f4, by simp, b1.trans (b24.mono b1.size)⟩
section
variable {w w1 : World} {S : Nat → Prop} {k n : Nat} {R : Rk}
set_option maxHeartbeats 4000000 in
theorem stw_any (h : RA w S w1 k n R) (ht : Tabs w1) (c : Nat) (hk : ROk n R c) (id K M B N : Int) (vl vd : Value) (l : List Int) (data : List ByteArray) (hv : Reads w1 vl (l.map (.int .i64))) (hcap : capOk vl) (hvS : l ≠ [] → ∀ q, vl.ownBlock = some q → ¬ S q) (hl : l.length ≤ 1000000) (hc : c + l.length ≤ 1000000000000) (hd : Reads w1 vd (tx data)) (hF : Fits data) (hdl : data.length ≤ 1000000) :
    Calls Tryz.prog 10 #[.pointer (some ⟨k, 0, none⟩), .int .i64 id, .agg #[.int .i64 K, .int .i64 M, .int .i64 B], vl, .agg #[.int .i64 N, vd]] w1 (EDoes w S w1 k n (stW n R id K M B l N data)) := by
  obtain ⟨W0, hW0⟩ : ∃ W0, W0 = ((((w1.alloc (.cells #[.pointer (some ⟨k, 0, none⟩)] 31)).alloc (.cells #[.int .i64 id] 3)).alloc (.cells #[.int .i64 K, .int .i64 M, .int .i64 B] 23)).alloc (.cells #[.int .i64 N, vd] 42)) := ⟨_, rfl⟩
  obtain ⟨f1, f2, f3, f4, hsz, hb0⟩ := four4 w1 (.cells #[.pointer (some ⟨k, 0, none⟩)] 31) (.cells #[.int .i64 id] 3) (.cells #[.int .i64 K, .int .i64 M, .int .i64 B] 23) (.cells #[.int .i64 N, vd] 42)
  rw [← hW0] at f1 f2 f3 f4 hsz hb0
  have hmf : ∀ (fn : Fn) (first cap : Array Value) (w : World), (Instr.makeFunc fn first cap).run Tryz.prog w = .ok (.func fn first cap) w := fun _ _ _ _ => rfl
  have cA := allow_any (h.after hb0) id K M B vl l (hv.below hb0) hcap hl N
  have CN : Hid (∀ W, Below w1.heap.size w1 W → Calls Tryz.prog 43 #[.agg #[.int .i64 K, .int .i64 M, .int .i64 B], vd] W (GivesL W (encSL K M data) (encSE K M data))) := Lib.hid fun W hW => sencode_any K M B vd data W (ht.below hW ht.two) (hd.below hW) hF hdl
  have HA := Lib.hid h
  by_cases hal : allowB n R id K M B l N = true
  · have CE : Hid (∀ w3 vs, Below W0.heap.size W0 w3 → encSE K M data = 0 → Own w3 w1.heap.size 9 vs (tx (encSL K M data)) → Calls Tryz.prog 34 #[vl, .func (.func 44) #[] #[.pointer (some ⟨w1.heap.size, 0, none⟩), .pointer (some ⟨w1.heap.size + 1, 0, none⟩), .pointer (some ⟨w1.heap.size + 1 + 1, 0, none⟩), .pointer (some ⟨w1.heap.size + 1 + 1 + 1, 0, none⟩), .pointer (some ⟨w3.heap.size, 0, none⟩)]] (w3.alloc (.cells #[vs] 39)) (EDoes w S (w3.alloc (.cells #[vs] 39)) k n (ea (wr1 n id K M B N (encSL K M data)) R [] l))) := Lib.hid fun w3 vs b3 he os => by
      have b13 := hb0.trans (b3.mono hb0.size)
      have b34 : Below w3.heap.size w3 (w3.alloc (.cells #[vs] 39)) := (Below.refl _ _).alloc (Nat.le_refl _) _
      have b14 := b13.trans (b34.mono b13.size)
      have b04 := b3.trans (b34.mono b3.size)
      have h4 := h.after b14
      have hsz4 : (w3.alloc (.cells #[vs] 39)).heap.size = w3.heap.size + 1 := by simp
      have hs3 := b3.size
      obtain ⟨hg, hn, _, _, _, hN0, hN1⟩ := allow_facts hal
      obtain ⟨hle, hse⟩ := enc_right hg hn he
      obtain ⟨a, hga, ha, _⟩ := sector_nat hal
      have hol := fun q hq => os.o.lt q hq
      have box : WBox (w3.alloc (.cells #[vs] 39)) k w1.heap.size (w1.heap.size + 1) (w1.heap.size + 1 + 1) (w1.heap.size + 1 + 1 + 1) w3.heap.size id K M B N vs :=
        ⟨heap_cell ((b04.block _ (by omega)).trans f1) rfl, heap_cell ((b04.block _ (by omega)).trans f2) rfl, (b04.block _ (by omega)).trans f3, heap_cell ((b04.block _ (by omega)).trans f4) rfl, heap_cell (heap_alloc_new _ _) rfl, by omega⟩
      refine each_write _ _ _ _ _ h4 1 c hk (wr1 n id K M B N (encSL K M data)) wr1_ok vl l (hv.below b14) hvS hl (by omega) fun x hx S' R' wr hA' hs hk2 => ?_
      obtain ⟨idx, hgi, hidx⟩ := index_nat hal hx
      have hlt : idx < (encSL K M data).length := by omega
      have hbS : ∀ q, q = w1.heap.size ∨ q = w1.heap.size + 1 ∨ q = w1.heap.size + 1 + 1 ∨ q = w1.heap.size + 1 + 1 + 1 ∨ q = w3.heap.size → ¬ S q := fun q hq hS => by have := h.lt q hS; omega
      have hbl : ∀ q, q = w1.heap.size ∨ q = w1.heap.size + 1 ∨ q = w1.heap.size + 1 + 1 ∨ q = w1.heap.size + 1 + 1 + 1 ∨ q = w3.heap.size → q < (w3.alloc (.cells #[vs] 39)).heap.size := fun q hq => by omega
      have hnew : ∀ q, q < (w3.alloc (.cells #[vs] 39)).heap.size → ¬ S q → ¬ S' q := fun q hq hS hS' => by
        rcases hs.grow q hS' with z | z
        · exact hS z
        · omega
      have hvS' : ∀ q, vs.ownBlock = some q → ¬ S q := fun q hq hS => by have := h.lt q hS; have := hol q hq; omega
      have hq4 : ∀ q, vs.ownBlock = some q → q < (w3.alloc (.cells #[vs] 39)).heap.size := fun q hq => by have := (hol q hq).2; omega
      have hres := wr1_any hA' hk2 (box.heap hs.b0.size fun q hq => hs.oth q (hbl q hq) (hbS q hq)) (fun q hq => hnew q (hbl q hq) (hbS q hq)) (encSL K M data) ((os.after b34).reads.kept hs.b0.size fun q hq hlt => hs.oth q hlt (hvS' q hq)) (fun q hq => hnew q (hq4 q hq) (hvS' q hq)) x idx a hlt hgi hga (by omega) (by rw [hse idx hlt]; decide)
      have e1 : wr1 n id K M B N (encSL K M data) R' x = wsM n id x R' a [(encSL K M data)[idx]] := by
        unfold wr1
        rw [hgi, hga, Int.toNat_natCast, Int.toNat_natCast, List.getD_eq_getElem?_getD, List.getElem?_eq_getElem hlt]; rfl
      rw [e1]
      exact hres
    have he0 : Hid (encSE K M data = 0 → stW n R id K M B l N data = ea (wr1 n id K M B N (encSL K M data)) R [] l) := Lib.hid fun he => by unfold stW; rw [if_pos hal, if_pos he]
    have he1 : Hid (encSE K M data ≠ 0 → stW n R id K M B l N data = (R, [], encSE K M data)) := Lib.hid fun he => by unfold stW; rw [if_pos hal, if_neg he]
    rw [hal] at cA
    generalize stW n R id K M B l N data = X at *
    generalize ea (wr1 n id K M B N (encSL K M data)) R [] l = Y at *
    generalize encSE K M data = er at *
    generalize encSL K M data = sh at *
    clear hal hv hcap hvS hd hF ht h
    go_enter Tryz.func10, Tryz.ntmps10
    go_wp2_with (fail)
    rw [show ((((w1.alloc (.cells #[.pointer (some ⟨k, 0, none⟩)] 31)).alloc (.cells #[.int .i64 id] 3)).alloc (.cells #[.int .i64 K, .int .i64 M, .int .i64 B] 23)).alloc (.cells #[.int .i64 N, vd] 42)) = W0 from hW0.symm]
    clear hW0
    refine cA.mono ?_
    rintro e w2 ⟨rfl, b2⟩
    have g1 : w2.cell? ⟨w1.heap.size + 1 + 1, 0, none⟩ = some (.int .i64 K) := heap_cell ((b2.block _ (by omega)).trans f3) rfl
    have g2 : w2.cell? ⟨w1.heap.size + 1 + 1, 1, none⟩ = some (.int .i64 M) := heap_cell ((b2.block _ (by omega)).trans f3) rfl
    have g3 : w2.cell? ⟨w1.heap.size + 1 + 1, 2, none⟩ = some (.int .i64 B) := heap_cell ((b2.block _ (by omega)).trans f3) rfl
    have g4 : w2.cell? ⟨w1.heap.size + 1 + 1 + 1, 1, none⟩ = some vd := heap_cell ((b2.block _ (by omega)).trans f4) rfl
    have cN := CN.out w2 (hb0.trans (b2.mono hb0.size))
    have HB2 := Lib.hid b2
    have HF4 := Lib.hid (And.intro f1 (And.intro f2 (And.intro f3 f4)))
    have HB0 := Lib.hid hb0
    clear cA f1 f2 f3 f4 CN b2 hb0
    go_wp2_with (fail)
    refine cN.mono ?_
    rintro e w3 ⟨vs, rfl, os, b3⟩
    obtain ⟨sa, sc, hform⟩ := os.reads.form
    rw [show (tx sh).length = sh.length from List.length_map ..] at hform
    subst hform
    have b03 := HB2.out.trans (b3.mono HB2.out.size)
    by_cases h0 : er = 0
    · subst h0
      have cE := CE.out w3 _ b03 rfl (os.down (Nat.le_trans HB0.out.size HB2.out.size))
      have he := Lib.hid (he0.out rfl)
      have B14 := Lib.hid (HB0.out.trans ((b03.trans ((((Below.refl w3.heap.size w3).alloc (Nat.le_refl _) (.cells #[.slice sa sh.length sc] 39))).mono b03.size)).mono HB0.out.size))
      clear CE cN g1 g2 g3 g4 os b3 b03 he0 he1
      go_wp2_with (fail)
      refine cE.mono ?_
      rintro e w5 ⟨vr, rfl, h5⟩
      have H5 := Lib.hid (h5.from B14.out)
      clear h5 cE
      go_wp2_with (fail)
      go_ret2
      rw [he.out]
      exact ⟨vr, rfl, H5.out⟩
    · have t1 : (er != 0) = true := by rw [bne_iff_ne]; exact h0
      have t2 : (er == 0) = false := by rw [beq_eq_false_iff_ne]; exact h0
      have he := Lib.hid (he1.out h0)
      have hfin := Lib.hid (edoes_no HA.out (HB0.out.trans ((b03.trans ((((Below.refl w3.heap.size w3).alloc (Nat.le_refl _) (.cells #[.slice sa sh.length sc] 39))).mono b03.size)).mono HB0.out.size)) er)
      clear CE cN g1 g2 g3 g4 os b3 b03 he0 he1
      go_wp2_with (fail)
      go_ret2
      rw [he.out]
      exact hfin.out
  · have he : Hid (stW n R id K M B l N data = (R, [], 1)) := Lib.hid (by unfold stW; rw [if_neg hal])
    rw [Bool.not_eq_true] at hal
    rw [hal] at cA
    rw [he.out]
    clear he hal h hv hvS hcap hk hd hF ht CN f1 f2 f3 f4
    go_enter Tryz.func10, Tryz.ntmps10
    go_wp2_with (fail)
    rw [show ((((w1.alloc (.cells #[.pointer (some ⟨k, 0, none⟩)] 31)).alloc (.cells #[.int .i64 id] 3)).alloc (.cells #[.int .i64 K, .int .i64 M, .int .i64 B] 23)).alloc (.cells #[.int .i64 N, vd] 42)) = W0 from hW0.symm]
    clear hW0
    refine cA.mono ?_
    rintro e w2 ⟨rfl, b2⟩
    have hfin := Lib.hid (edoes_no HA.out (hb0.trans (b2.mono hb0.size)) 1)
    clear b2 cA
    go_wp2_with (fail)
    go_ret2
    exact hfin.out
end
end Go.Proofs.YtjgafpkpoppcbaaGreatDoor
end
section
namespace Go.Proofs.YtjgafpkpoppcbaaGreatDoor
open Go.RowKit
set_option maxRecDepth 100000
def rdF (n : Nat) (R : Rk) (id K M B N : Int) : List ByteArray → List Bool → List Int → List Int → List ByteArray × List Bool × List Int
  | sh, hv, bad, [] => (sh, hv, bad)
  | sh, hv, bad, x :: xs => rdF n R id K M B N (sh.set (gIndex K M B N x).toNat (srS n R id x (gSector K M B N))) (hv.set (gIndex K M B N x).toNat (srB n R id x (gSector K M B N))) (if srB n R id x (gSector K M B N) = true then bad else bad ++ [x]) xs
def rdA (n : Nat) (R : Rk) (id K M B N : Int) (l : List Int) : List ByteArray × List Bool × List Int := rdF n R id K M B N (List.replicate n ⟨#[]⟩) (List.replicate n false) [] l
def stR (n : Nat) (R : Rk) (id K M B : Int) (l : List Int) (N : Int) : List ByteArray × List Int × Int :=
  if allowB n R id K M B l N = true then (if R.off = true then ([], [], 90) else
    (if decE M (rdA n R id K M B N l).1 (rdA n R id K M B N l).2.1 = 0 then (decL M (rdA n R id K M B N l).1 (rdA n R id K M B N l).2.1, (rdA n R id K M B N l).2.2, 0) else ([], (rdA n R id K M B N l).2.2, 130))) else ([], [], 1)
theorem rdF_drop {n : Nat} {R : Rk} {id K M B N : Int} (sh : List ByteArray) (hv : List Bool) (bad : List Int) {l : List Int} {i : Nat} (hi : i < l.length) : rdF n R id K M B N sh hv bad (l.drop i) = rdF n R id K M B N (sh.set (gIndex K M B N l[i]).toNat (srS n R id l[i] (gSector K M B N))) (hv.set (gIndex K M B N l[i]).toNat (srB n R id l[i] (gSector K M B N))) (if srB n R id l[i] (gSector K M B N) = true then bad else bad ++ [l[i]]) (l.drop (i + 1)) := by
  rw [List.drop_eq_getElem_cons hi]; rfl
theorem open_size (d slot at_ : Int) (s : ByteArray) : (openS d slot at_ s).size ≤ 120 := by
  unfold openS
  by_cases h : openOk d slot at_ s = true
  · rw [if_pos h]; simp [ByteArray.size_extract]; omega
  · rw [if_neg h]; decide
theorem sr_size (n : Nat) (R : Rk) (id slot at_ : Int) : (srS n R id slot at_).size ≤ 120 := by
  unfold srS
  by_cases h : rdRE n R slot at_ = 0
  · rw [if_pos h]; exact open_size _ _ _ _
  · rw [if_neg h]; decide
def RdDoes (w1 : World) (X : List ByteArray × List Int × Int) (e : Ending) (w' : World) : Prop := ∃ vd vb, e = .returned (.tuple #[vd, vb, .int .i64 X.2.2]) ∧ Own w' w1.heap.size 9 vd (tx X.1) ∧ Own w' w1.heap.size 3 vb (X.2.1.map (.int .i64)) ∧ Below w1.heap.size w1 w'
theorem rdoes_no {w1 w4 : World} (hb : Below w1.heap.size w1 w4) (E : Int) : RdDoes w1 ([], [], E) (.returned (.tuple #[.slice none 0 0, .slice none 0 0, .int .i64 E])) w4 :=
  ⟨_, _, rfl, Own.nil _ _ _, Own.nil _ _ _, hb⟩
structure RdIn (W : Nat) (n g1 g2 : Nat) (sh : List ByteArray) (hv : List Bool) (bad : List Int) (vb : Value) (wr : World) : Prop where
  s : Own wr W 9 (.slice (some ⟨g1, 0, none⟩) n n) (tx sh)
  h : Own wr W 4 (.slice (some ⟨g2, 0, none⟩) n n) (bv hv)
  b : Own wr W 3 vb (bad.map (.int .i64))
  ne : g1 ≠ g2
  nb : ∀ q, vb.ownBlock = some q → q ≠ g1 ∧ q ≠ g2
theorem RdIn.after {W n g1 g2 : Nat} {sh : List ByteArray} {hv : List Bool} {bad : List Int} {vb : Value} {wr w' : World} (x : RdIn W n g1 g2 sh hv bad vb wr) (hb : Below wr.heap.size wr w') : RdIn W n g1 g2 sh hv bad vb w' := ⟨x.s.after hb, x.h.after hb, x.b.after hb, x.ne, x.nb⟩
theorem bv_set (l : List Bool) (i : Nat) (b : Bool) : bv (l.set i b) = (bv l).set i (.bool b) := by simp [bv, List.map_set]
theorem tx_set (l : List ByteArray) (i : Nat) (s : ByteArray) : tx (l.set i s) = (tx l).set i (.string s) := by simp [tx, List.map_set]
theorem RdIn.put {W n g1 g2 : Nat} {sh : List ByteArray} {hv : List Bool} {bad : List Int} {vb : Value} {wr : World} (x : RdIn W n g1 g2 sh hv bad vb wr) (i : Nat) (s : ByteArray) (b : Bool) : RdIn W n g1 g2 (sh.set i s) (hv.set i b) bad vb ((wr.setCell ⟨g1, i, none⟩ (.string s)).setCell ⟨g2, i, none⟩ (.bool b)) := by
  refine ⟨?_, ?_, ?_, x.ne, x.nb⟩
  · rw [tx_set]
    exact (x.s.set i (.string s)).setOther (fun e => x.ne (by injection e)) _
  · rw [bv_set]
    exact (x.h.setOther (a := ⟨g1, i, none⟩) (fun e => x.ne (by injection e with e; exact e.symm)) _).set i (.bool b)
  · exact (x.b.setOther (a := ⟨g1, i, none⟩) (fun e => (x.nb _ e).1 rfl) _).setOther (a := ⟨g2, i, none⟩) (fun e => (x.nb _ e).2 rfl) _
theorem RdIn.push {W n g1 g2 : Nat} {sh : List ByteArray} {hv : List Bool} {bad : List Int} {vb v' : Value} {wr w' : World} {x0 : Int} (x : RdIn W n g1 g2 sh hv bad vb wr) (o : Own w' W 3 v' (bad.map (.int .i64) ++ [.int .i64 x0])) (kp : KeptBut vb wr w') (hv' : v'.ownBlock = vb.ownBlock ∨ v'.ownBlock = some (wr.heap.size + 1)) : RdIn W n g1 g2 sh hv (bad ++ [x0]) v' w' := by
  have l1 := x.s.lt.2
  have l2 := x.h.lt.2
  refine ⟨x.s.sameBlock (kp g1 l1 fun e => (x.nb _ e).1 rfl), x.h.sameBlock (kp g2 l2 fun e => (x.nb _ e).2 rfl), by rw [List.map_append]; exact o, x.ne, fun q hq => ?_⟩
  rcases hv' with e | e
  · rw [e] at hq; exact x.nb q hq
  · rw [e] at hq
    injection hq with hq
    omega
theorem Tryz.infoBl : (Tryz.prog.info? 4).map (fun i => (i.zero, i.size, i.bytes)) = some (some (.bool false), 1, 1) := by kernel_rfl
section
variable {w w1 : World} {S : Nat → Prop} {k n : Nat} {R : Rk}
set_option maxHeartbeats 4000000 in
theorem str_any (h : RA w S w1 k n R) (ht : Tabs w1) (hk : ROk n R 1000000000000) (id K M B N : Int) (vl : Value) (l : List Int) (hv : Reads w1 vl (l.map (.int .i64))) (hcap : capOk vl) (hl : l.length ≤ 1000000) :
    Calls Tryz.prog 26 #[.pointer (some ⟨k, 0, none⟩), .int .i64 id, .agg #[.int .i64 K, .int .i64 M, .int .i64 B], vl, .int .i64 N] w1 (RdDoes w1 (stR n R id K M B l N)) := by
  obtain ⟨W0, hW0⟩ : ∃ W0, W0 = w1.alloc (.cells #[.int .i64 K, .int .i64 M, .int .i64 B] 23) := ⟨_, rfl⟩
  have hb0 : Below w1.heap.size w1 W0 := by rw [hW0]; exact (Below.refl _ _).alloc (Nat.le_refl _) _
  have hG : SGeoAt W0 w1.heap.size K M B := by rw [hW0]; exact SGeoAt.new w1 K M B
  have cA := allow_any (h.after hb0) id K M B vl l (hv.below hb0) hcap hl N
  have HA := Lib.hid h
  by_cases hal : allowB n R id K M B l N = true
  · have he0 : Hid (R.off = true → stR n R id K M B l N = ([], [], 90)) := Lib.hid fun e => by unfold stR; rw [if_pos hal, if_pos e]
    have he1 : Hid (R.off = false → decE M (rdA n R id K M B N l).1 (rdA n R id K M B N l).2.1 = 0 → stR n R id K M B l N = (decL M (rdA n R id K M B N l).1 (rdA n R id K M B N l).2.1, (rdA n R id K M B N l).2.2, 0)) := Lib.hid fun e e2 => by unfold stR; rw [if_pos hal, if_neg (by rw [e]; decide), if_pos e2]
    have he2 : Hid (R.off = false → decE M (rdA n R id K M B N l).1 (rdA n R id K M B N l).2.1 ≠ 0 → stR n R id K M B l N = ([], (rdA n R id K M B N l).2.2, 130)) := Lib.hid fun e e2 => by unfold stR; rw [if_pos hal, if_neg (by rw [e]; decide), if_neg e2]
    have CO : Hid (∀ W, Below w1.heap.size w1 W → Calls Tryz.prog 68 #[.pointer (some ⟨k, 0, none⟩)] W fun e w' => e = .returned (.bool R.off) ∧ W = w') := Lib.hid fun W hW => rt_off (h.after hW)
    have CS : Hid (∀ W, Below w1.heap.size w1 W → Calls Tryz.prog 33 #[.pointer (some ⟨k, 0, none⟩)] W fun e w' => e = .returned (.int .i64 (n : Int)) ∧ W = w') := Lib.hid fun W hW => rt_slots (h.after hW)
    have CR : Hid (∀ W (x : Int), Below w1.heap.size w1 W → Calls Tryz.prog 69 #[.pointer (some ⟨k, 0, none⟩), .int .i64 id, .int .i64 x, .int .i64 (gSector K M B N)] W (TellsB W (srS n R id x (gSector K M B N)) (srB n R id x (gSector K M B N)))) := Lib.hid fun W x hW => sr_any (h.after hW) hk id x (gSector K M B N)
    have CD : Hid (∀ W va vb sh hv', Below w1.heap.size w1 W → Reads W va (tx sh) → Reads W vb (bv hv') → sh.length = n → hv'.length = n → (∀ s ∈ sh, s.size ≤ 120) → Calls Tryz.prog 70 #[.int .i64 M, va, vb] W (GivesL W (decL M sh hv') (decE M sh hv'))) := Lib.hid fun W va vb sh hv' hW h1 h2 h3 h4 h5 => by
      have hn7 : n ≤ 7 := by obtain ⟨Λ, hB⟩ := h.h; exact hB.n7
      exact decode_any M va vb sh hv' W (ht.below hW ht.two) h1 h2 ⟨by omega, fun i hi => by
        rw [List.getD_eq_getElem?_getD, List.getElem?_eq_getElem hi]
        have := h5 _ (List.getElem_mem hi)
        show sh[i].size ≤ _
        omega⟩ (by omega) (by omega)
    have hn7 : n ≤ 7 := by obtain ⟨Λ, hB⟩ := h.h; exact hB.n7
    have HI : Hid (∀ x ∈ l, ∃ i : Nat, gIndex K M B N x = (i : Int) ∧ i < n) := Lib.hid fun x hx => index_nat hal hx
    obtain ⟨va, vc, rfl, hit⟩ := Reads.items hv
    have HIT := Lib.hid hit
    generalize stR n R id K M B l N = X at *
    obtain ⟨Y, hY⟩ : ∃ Y, Y = rdA n R id K M B N l := ⟨_, rfl⟩
    rw [← hY] at he1 he2
    have HY : Hid (Y = rdF n R id K M B N (List.replicate n ⟨#[]⟩) (List.replicate n false) [] l) := Lib.hid hY
    rw [hal] at cA
    obtain ⟨off, hoff⟩ : ∃ b, R.off = b := ⟨_, rfl⟩
    rw [hoff] at he0 he1 he2 CO
    clear hal hv hit hcap ht hk h hY hoff
    cases off with
    | true =>
      have he := Lib.hid (he0.out rfl)
      go_enter Tryz.func26, Tryz.ntmps26
      obtain ⟨e0, e1, e2, elt⟩ := hG
      go_wp2_with (fail)
      rw [show w1.alloc (.cells #[.int .i64 K, .int .i64 M, .int .i64 B] 23) = W0 from hW0.symm]
      clear hW0
      refine cA.mono ?_
      rintro e w2 ⟨rfl, b2⟩
      have hb2 := hb0.trans (b2.mono hb0.size)
      have cO := CO.out w2 hb2
      have hfin := Lib.hid (rdoes_no hb2 90)
      clear b2 cA hb2
      go_wp2_with (fail)
      refine cO.mono ?_
      rintro e w3 ⟨rfl, rfl⟩
      go_wp2_with (fail)
      go_ret3
      rw [he.out]
      exact hfin.out
    | false =>
      have he1' : Hid (decE M Y.1 Y.2.1 = 0 → X = (decL M Y.1 Y.2.1, Y.2.2, 0)) := Lib.hid (he1.out rfl)
      have he2' : Hid (decE M Y.1 Y.2.1 ≠ 0 → X = ([], Y.2.2, 130)) := Lib.hid (he2.out rfl)
      clear he0 he1 he2
      go_enter Tryz.func26, Tryz.ntmps26
      obtain ⟨e0, e1, e2, elt⟩ := hG
      go_wp2_with (fail)
      rw [show w1.alloc (.cells #[.int .i64 K, .int .i64 M, .int .i64 B] 23) = W0 from hW0.symm]
      clear hW0
      refine cA.mono ?_
      rintro e w2 ⟨rfl, b2⟩
      have hb2 := hb0.trans (b2.mono hb0.size)
      have cO := CO.out w2 hb2
      have g0 : w2.cell? ⟨w1.heap.size, 0, none⟩ = some (.int .i64 K) := (b2.cell (p := ⟨w1.heap.size, 0, none⟩) elt).trans e0
      have g1 : w2.cell? ⟨w1.heap.size, 1, none⟩ = some (.int .i64 M) := (b2.cell (p := ⟨w1.heap.size, 1, none⟩) elt).trans e1
      have g2 : w2.cell? ⟨w1.heap.size, 2, none⟩ = some (.int .i64 B) := (b2.cell (p := ⟨w1.heap.size, 2, none⟩) elt).trans e2
      have gl : w1.heap.size < w2.heap.size := Nat.lt_of_lt_of_le elt b2.size
      have HB2 := Lib.hid hb2
      clear cA e0 e1 e2 elt b2 hb2 hb0
      go_wp2_with (fail)
      refine cO.mono ?_
      rintro e w3 ⟨rfl, rfl⟩
      obtain ⟨i0, hi0, hz0, hz1, hz2⟩ := info_parts Tryz.infoS
      obtain ⟨i1, hi1, hy0, hy1, hy2⟩ := info_parts Tryz.infoBl
      obtain ⟨F1, hF1⟩ := Classical.skolem.1 (fun W : World => Own.make_run (P := Tryz.prog) (T := 39) Tryz.underlying39 hi0 hz0 hz1 hz2 rfl W n (by omega) (by omega))
      obtain ⟨F2, hF2⟩ := Classical.skolem.1 (fun W : World => Own.make_run (P := Tryz.prog) (T := 89) Tryz.underlying89 hi1 hy0 hy1 hy2 rfl W n (by omega) (by omega))
      have m1 : ∀ W : World, (Instr.makeSlice 39 (.int .i64 (n : Int)) (.int .i64 (n : Int))).run Tryz.prog W = .ok (.slice (some ⟨W.heap.size, 0, none⟩) n n) (F1 W) := fun W => (hF1 W).1
      have m2 : ∀ W : World, (Instr.makeSlice 89 (.int .i64 (n : Int)) (.int .i64 (n : Int))).run Tryz.prog W = .ok (.slice (some ⟨W.heap.size, 0, none⟩) n n) (F2 W) := fun W => (hF2 W).1
      have hd := Below.drew_ w2
      have cS0 := CS.out w2.drew (HB2.out.trans (hd.mono HB2.out.size))
      have cS1 := CS.out (F1 w2.drew) (HB2.out.trans ((hd.trans (hF1 w2.drew).2.2).mono HB2.out.size))
      have M12 : Hid (∃ g1 g2, (.slice (some ⟨w2.drew.heap.size, 0, none⟩) n n : Value) = .slice (some ⟨g1, 0, none⟩) n n ∧ (.slice (some ⟨(F1 w2.drew).heap.size, 0, none⟩) n n : Value) = .slice (some ⟨g2, 0, none⟩) n n ∧ RdIn w2.heap.size n g1 g2 (List.replicate n ⟨#[]⟩) (List.replicate n false) [] (.slice none 0 0) (F2 (F1 w2.drew)) ∧ Below w2.heap.size w2 (F2 (F1 w2.drew))) := Lib.hid (by
        obtain ⟨_, o1, b1⟩ := hF1 w2.drew
        obtain ⟨_, o2, b2⟩ := hF2 (F1 w2.drew)
        have l1 := o1.lt
        exact ⟨_, _, rfl, rfl, ⟨by simpa [tx] using o1.after b2, by simpa [bv] using o2.down b1.size, Own.nil _ _ _, Nat.ne_of_lt l1.2, fun q hq => by cases hq⟩, hd.trans (b1.trans (b2.mono b1.size))⟩)
      have M21 : Hid (∃ g1 g2, (.slice (some ⟨(F2 w2.drew).heap.size, 0, none⟩) n n : Value) = .slice (some ⟨g1, 0, none⟩) n n ∧ (.slice (some ⟨w2.drew.heap.size, 0, none⟩) n n : Value) = .slice (some ⟨g2, 0, none⟩) n n ∧ RdIn w2.heap.size n g1 g2 (List.replicate n ⟨#[]⟩) (List.replicate n false) [] (.slice none 0 0) (F1 (F2 w2.drew)) ∧ Below w2.heap.size w2 (F1 (F2 w2.drew))) := Lib.hid (by
        obtain ⟨_, o1, b1⟩ := hF2 w2.drew
        obtain ⟨_, o2, b2⟩ := hF1 (F2 w2.drew)
        have l1 := o1.lt
        exact ⟨_, _, rfl, rfl, ⟨by simpa [tx] using o2.down b1.size, by simpa [bv] using o1.after b2, Own.nil _ _ _, (Nat.ne_of_lt l1.2).symm, fun q hq => by cases hq⟩, hd.trans (b1.trans (b2.mono b1.size))⟩)
      clear hF1 hF2 hd
      go_upto_region 5 with (fail)
      go_cut [13, 14] from 30 to 35 (fun u v wx => ∃ g1 g2, u = .slice (some ⟨g1, 0, none⟩) n n ∧ v = .slice (some ⟨g2, 0, none⟩) n n ∧ RdIn w2.heap.size n g1 g2 (List.replicate n ⟨#[]⟩) (List.replicate n false) [] (.slice none 0 0) wx ∧ Below w2.heap.size w2 wx)
      case first =>
        go_region_with (go_at_call 33; (first | (refine cS0.mono ?_) | (refine cS1.mono ?_)); rintro e w4 ⟨rfl, rfl⟩)
        all_goals (go_wp2_with (fail); go_meet; first | exact M12.out | exact M21.out)
      case rest =>
      obtain ⟨p1, p2, rfl, rfl, hin, hbc⟩ := hcut
      have HIN := Lib.hid hin
      have HBC := Lib.hid hbc
      clear hin hbc M12 M21 cS0 cS1 m1 m2 cO
      go_wp2_with (fail)
      go_loopw [15, 17, 18, 38] (fun vb _ _ t wr => ∃ (i : Nat) (sh : List ByteArray) (hv : List Bool) (bad : List Int), i ≤ l.length ∧ t = .int .i64 (i : Int) ∧ Y = rdF n R id K M B N sh hv bad (l.drop i) ∧ sh.length = n ∧ hv.length = n ∧ (∀ s ∈ sh, s.size ≤ 120) ∧ bad.length ≤ i ∧ RdIn w2.heap.size n p1 p2 sh hv bad vb wr ∧ Below w2.heap.size w2 wr) (fun _ _ _ t _ => l.length - (RowKit.intOf t).toNat)
      case atStart => exact ⟨0, _, _, [], Nat.zero_le _, rfl, HY.out, by simp, by simp, fun s hs => by rw [List.eq_of_mem_replicate hs]; decide, Nat.le_refl _, HIN.out, HBC.out⟩
      case round =>
        clear HIN HBC HY
        obtain ⟨i, sh, hv, bad, hi, rfl, hYr, hsl, hvl, hss, hbl, hin, hB⟩ := hrel
        rename World => wr
        have hWr := HB2.out.trans (hB.mono HB2.out.size)
        by_cases hlt : i < l.length
        · have y1 : (i : Int) < (l.length : Int) := by omega
          obtain ⟨cb, co, rfl, hcb, hc⟩ := HIT.out i hlt
          obtain ⟨idx, hgi, hidx⟩ := HI.out l[i] (List.getElem_mem hlt)
          have c1 : wr.cell? ⟨cb, co + i, none⟩ = _ := (hWr.cell (p := ⟨cb, co + i, none⟩) hcb).trans hc
          rw [rdF_drop sh hv bad hlt, hgi, Int.toNat_natCast] at hYr
          have cI := index_any K M B N l[i] wr
          rw [hgi] at cI
          obtain ⟨x, hx⟩ : ∃ x, l[i] = x := ⟨_, rfl⟩
          rw [hx] at hYr cI c1
          have CRx := Lib.hid (fun W hW => CR.out W x hW)
          have hsz := sr_size n R id x (gSector K M B N)
          generalize srS n R id x (gSector K M B N) = s at *
          generalize srB n R id x (gSector K M B N) = b at *
          have d0 : wr.cell? ⟨w1.heap.size, 0, none⟩ = some (.int .i64 K) := (hB.cell (p := ⟨w1.heap.size, 0, none⟩) gl).trans g0
          have d1 : wr.cell? ⟨w1.heap.size, 1, none⟩ = some (.int .i64 M) := (hB.cell (p := ⟨w1.heap.size, 1, none⟩) gl).trans g1
          have d2 : wr.cell? ⟨w1.heap.size, 2, none⟩ = some (.int .i64 B) := (hB.cell (p := ⟨w1.heap.size, 2, none⟩) gl).trans g2
          have glr : w1.heap.size < wr.heap.size := Nat.lt_of_lt_of_le gl hB.size
          have HBw := Lib.hid hB
          have HWr := Lib.hid hWr
          have Hin := Lib.hid hin
          have HYr := Lib.hid hYr
          have Hg := Lib.hid (And.intro g0 (And.intro g1 g2))
          clear hc hgi hx hB hWr hin hYr g0 g1 g2
          go_wp2_with (fail)
          refine cI.mono ?_
          rintro e w3 ⟨rfl, b3⟩
          have d0' : w3.cell? ⟨w1.heap.size, 0, none⟩ = some (.int .i64 K) := (b3.cell (p := ⟨w1.heap.size, 0, none⟩) glr).trans d0
          have d1' : w3.cell? ⟨w1.heap.size, 1, none⟩ = some (.int .i64 M) := (b3.cell (p := ⟨w1.heap.size, 1, none⟩) glr).trans d1
          have d2' : w3.cell? ⟨w1.heap.size, 2, none⟩ = some (.int .i64 B) := (b3.cell (p := ⟨w1.heap.size, 2, none⟩) glr).trans d2
          have cS := gsector_any K M B N w3
          have H3 := Lib.hid (HWr.out.trans (b3.mono HWr.out.size))
          have B3 := Lib.hid b3
          clear d0 d1 d2 c1 cI b3
          go_wp2_with (fail)
          refine cS.mono ?_
          rintro e w4 ⟨rfl, b4⟩
          have cR := CRx.out w4 (H3.out.trans (b4.mono H3.out.size))
          have B4 := Lib.hid b4
          clear d0' d1' d2' cS b4
          go_wp2_with (fail)
          refine cR.mono ?_
          rintro e w5 ⟨rfl, b5⟩
          have b345 := B3.out.trans ((B4.out.trans (b5.mono B4.out.size)).mono B3.out.size)
          have x5 := Hin.out.after b345
          have hB5 := HBw.out.trans (b345.mono HBw.out.size)
          have hls : idx < (tx sh).length := by rw [List.length_map]; omega
          have hlv : idx < (bv hv).length := by rw [bv_length]; omega
          have f1 := x5.s.frozen idx
          have k1 := x5.s.cell hls
          have x5h := x5.h.setOther (a := ⟨p1, idx, none⟩) (fun e => x5.ne (by injection e with e; exact e.symm)) (.string s)
          have f2 := x5h.frozen idx
          have k2 := x5h.cell hlv
          have x6 := x5.put idx s b
          have k3 := x6.h.cell (i := idx) (by rw [bv_length, List.length_set]; omega)
          rw [bv_getD _ (by rw [List.length_set]; omega), List.getD_eq_getElem?_getD, List.getElem?_set_self (by omega), Option.getD_some] at k3
          have hB6 : Below w2.heap.size w2 ((w5.setCell ⟨p1, idx, none⟩ (.string s)).setCell ⟨p2, idx, none⟩ (.bool b)) := (hB5.setCell (p := ⟨p1, idx, none⟩) x5.s.lt.1 _).setCell (p := ⟨p2, idx, none⟩) x5.h.lt.1 _
          have hss6 : ∀ t ∈ sh.set idx s, t.size ≤ 120 := fun t ht => by
            rcases List.mem_or_eq_of_mem_set ht with z | z
            · exact hss t z
            · rw [z]; exact hsz
          have X6 := Lib.hid x6
          have HB6 := Lib.hid hB6
          have HS6 := Lib.hid hss6
          generalize (tx sh).getD idx .nilFunc = o1 at k1
          generalize (bv hv).getD idx .nilFunc = o2 at k2
          clear cR b5 b345 x5 hB5 x5h x6 hB6 hss6 hls hlv
          cases b with
          | true =>
            have HY6 : Hid (Y = rdF n R id K M B N (sh.set idx s) (hv.set idx true) bad (l.drop (i + 1))) := Lib.hid (by rw [HYr.out, if_pos rfl])
            clear HYr
            go_wp2_with (fail)
            go_roundw
            case rel => exact ⟨i + 1, _, _, bad, by omega, by go_num, HY6.out, by rw [List.length_set]; exact hsl, by rw [List.length_set]; exact hvl, HS6.out, by omega, X6.out, HB6.out⟩
            case measure => simp [RowKit.intOf]; omega
          | false =>
            have HY6 : Hid (Y = rdF n R id K M B N (sh.set idx s) (hv.set idx false) (bad ++ [x]) (l.drop (i + 1))) := Lib.hid (by rw [HYr.out, if_neg (by decide)])
            clear HYr
            obtain ⟨i3, q1, q2, q3, q4⟩ := info_parts Tryz.infoI
            obtain ⟨v8, w8, hap, o8, b8, kp8, hv8⟩ := Own.pushA (P := Tryz.prog) (T := 26) Tryz.underlying26 q1 q2 q3 q4 rfl X6.out.b (.int .i64 x) rfl HB6.out.size (by rw [List.length_map]; omega) (by rw [List.length_map]; omega)
            have X8 := Lib.hid (X6.out.push o8 kp8 hv8)
            have e6 : ((w5.setCell ⟨p1, idx, none⟩ (.string s)).setCell ⟨p2, idx, none⟩ (.bool false)).heap.size = w5.heap.size := by simp
            rw [e6] at hap
            clear e6
            have HB8 := Lib.hid (HB6.out.trans b8)
            clear o8 b8 kp8 hv8
            go_wp2_with (at_builtin; refine wpList_append_run hap _ _ rfl rfl rfl rfl rfl ?_)
            go_roundw
            case rel => exact ⟨i + 1, _, _, bad ++ [x], by omega, by go_num, HY6.out, by rw [List.length_set]; exact hsl, by rw [List.length_set]; exact hvl, HS6.out, by rw [List.length_append]; simp; omega, X8.out, HB8.out⟩
            case measure => simp [RowKit.intOf]; omega
        · obtain rfl : i = l.length := by omega
          have y1 : ¬ ((l.length : Int) < (l.length : Int)) := by omega
          rw [List.drop_length] at hYr
          have hY2 : Hid (Y = (sh, hv, bad)) := Lib.hid hYr
          have d1 : wr.cell? ⟨w1.heap.size, 1, none⟩ = some (.int .i64 M) := (hB.cell (p := ⟨w1.heap.size, 1, none⟩) gl).trans g1
          have cD := CD.out wr _ _ sh hv hWr hin.s.reads hin.h.reads hsl hvl hss
          obtain rfl := hY2.out
          have he1 : Hid (decE M sh hv = 0 → X = (decL M sh hv, bad, 0)) := Lib.hid he1'.out
          have he2 : Hid (decE M sh hv ≠ 0 → X = ([], bad, 130)) := Lib.hid he2'.out
          have Hb := Lib.hid (hin.b.down HB2.out.size)
          have HWr := Lib.hid hWr
          clear hYr hY2 hin hB hWr g0 g1 g2 he1' he2' hss
          generalize decE M sh hv = er at *
          generalize decL M sh hv = dl at *
          go_wp2_with (fail)
          refine cD.mono ?_
          rintro e w3 ⟨vd, rfl, od, bd⟩
          have Hbd := Lib.hid (Hb.out.after bd)
          have Hod := Lib.hid (od.down HWr.out.size)
          have HB3 := Lib.hid (HWr.out.trans (bd.mono HWr.out.size))
          clear od bd cD d1
          by_cases h0 : er = 0
          · subst h0
            have he := Lib.hid (he1.out rfl)
            clear he1 he2
            go_wp2_with (fail)
            go_ret3
            rw [he.out]
            exact ⟨_, _, rfl, Hod.out, Hbd.out, HB3.out⟩
          · have t1 : (er != 0) = true := by rw [bne_iff_ne]; exact h0
            have t2 : (er == 0) = false := by rw [beq_eq_false_iff_ne]; exact h0
            have he := Lib.hid (he2.out h0)
            clear he1 he2
            go_wp2_with (fail)
            go_ret3
            rw [he.out]
            exact ⟨_, _, rfl, Own.nil _ _ _, Hbd.out, HB3.out⟩
  · have he : Hid (stR n R id K M B l N = ([], [], 1)) := Lib.hid (by unfold stR; rw [if_neg hal])
    rw [Bool.not_eq_true] at hal
    rw [hal] at cA
    generalize stR n R id K M B l N = X at *
    clear hal h hv hcap hk ht
    go_enter Tryz.func26, Tryz.ntmps26
    obtain ⟨e0, e1, e2, elt⟩ := hG
    go_wp2_with (fail)
    rw [show w1.alloc (.cells #[.int .i64 K, .int .i64 M, .int .i64 B] 23) = W0 from hW0.symm]
    clear hW0
    refine cA.mono ?_
    rintro e w2 ⟨rfl, b2⟩
    have hfin := Lib.hid (rdoes_no (hb0.trans (b2.mono hb0.size)) 1)
    clear b2 cA
    go_wp2_with (fail)
    go_ret3
    rw [he.out]
    exact hfin.out
end
end Go.Proofs.YtjgafpkpoppcbaaGreatDoor
end
section
namespace Go.Proofs.YtjgafpkpoppcbaaGreatDoor
open Go.RowKit
set_option maxRecDepth 100000
def Same2 (w : World) (v : Value) (x : Ending) (w2 : World) : Prop := x = .returned v ∧ Below w.heap.size w w2
theorem pick7_any (c n : Int) (w : World) (h1 : -9223372036854775808 ≤ c) (h2 : c ≤ 9223372036854775807) (h3 : 1 ≤ n) (h4 : n ≤ 9223372036854775807) :
    Calls Tryz.prog 36 #[.int .i64 c, .int .i64 n] w fun e w' => e = .returned (.int .i64 (pk c n)) ∧ w = w' := by
  by_cases hc : c < 0
  · have hp : Hid (pk c n = -((c + 1).tmod n)) := Lib.hid (by unfold pk; rw [if_pos hc, ← Int.neg_tmod, Int.tmod_eq_emod_of_nonneg (by omega)])
    go_enter Tryz.func36, Tryz.ntmps36
    go_wp2
    go_ret
    exact ⟨by rw [hp.out]; rfl, rfl⟩
  · have hp : Hid (pk c n = c % n) := Lib.hid (by unfold pk; rw [if_neg hc])
    go_enter Tryz.func36, Tryz.ntmps36
    go_wp2
    go_ret
    exact ⟨by rw [hp.out]; rfl, rfl⟩
theorem pick11_any (c n : Int) (w : World) (h1 : -9223372036854775808 ≤ c) (h2 : c ≤ 9223372036854775807) (h3 : 1 ≤ n) (h4 : n ≤ 9223372036854775807) :
    Calls Tryz.prog 79 #[.int .i64 c, .int .i64 n] w fun e w' => e = .returned (.int .i64 (pk c n)) ∧ w = w' := by
  by_cases hc : c < 0
  · have hp : Hid (pk c n = -((c + 1).tmod n)) := Lib.hid (by unfold pk; rw [if_pos hc, ← Int.neg_tmod, Int.tmod_eq_emod_of_nonneg (by omega)])
    go_enter Tryz.func79, Tryz.ntmps79
    go_wp2
    go_ret
    exact ⟨by rw [hp.out]; rfl, rfl⟩
  · have hp : Hid (pk c n = c % n) := Lib.hid (by unfold pk; rw [if_neg hc])
    go_enter Tryz.func79, Tryz.ntmps79
    go_wp2
    go_ret
    exact ⟨by rw [hp.out]; rfl, rfl⟩
theorem pick13_any (c n : Int) (w : World) (h1 : -9223372036854775808 ≤ c) (h2 : c ≤ 9223372036854775807) (h3 : 1 ≤ n) (h4 : n ≤ 9223372036854775807) :
    Calls Tryz.prog 8 #[.int .i64 c, .int .i64 n] w fun e w' => e = .returned (.int .i64 (pk c n)) ∧ w = w' := by
  by_cases hc : c < 0
  · have hp : Hid (pk c n = -((c + 1).tmod n)) := Lib.hid (by unfold pk; rw [if_pos hc, ← Int.neg_tmod, Int.tmod_eq_emod_of_nonneg (by omega)])
    go_enter Tryz.func8, Tryz.ntmps8
    go_wp2
    go_ret
    exact ⟨by rw [hp.out]; rfl, rfl⟩
  · have hp : Hid (pk c n = c % n) := Lib.hid (by unfold pk; rw [if_neg hc])
    go_enter Tryz.func8, Tryz.ntmps8
    go_wp2
    go_ret
    exact ⟨by rw [hp.out]; rfl, rfl⟩
def fK (K : Int) : Int := 1 + pk K 4
def fM (M : Int) : Int := 1 + pk M 3
def fB (B : Int) : Int := 8 + pk B 193
theorem fit_right (K M B : Int) : gR (fK K) (fM M) (fB B) = true := by
  have h1 := pk_rng K 4 (by omega); have h2 := pk_rng M 3 (by omega); have h3 := pk_rng B 193 (by omega)
  exact gR_mk (by unfold fK fM fB; omega)
set_option maxRecDepth 100000 in
set_option maxHeartbeats 600000 in
theorem fit7_any (K M B : Int) (w : World) (k1 : -9223372036854775808 ≤ K) (k2 : K ≤ 9223372036854775807) (m1 : -9223372036854775808 ≤ M) (m2 : M ≤ 9223372036854775807) (b1 : -9223372036854775808 ≤ B) (b2 : B ≤ 9223372036854775807) :
    Calls Tryz.prog 6 #[.agg #[.int .i64 K, .int .i64 M, .int .i64 B]] w fun e w' => e = .returned (.agg #[.int .i64 (fK K), .int .i64 (fM M), .int .i64 (fB B)]) ∧ Below w.heap.size w w' := by
  have h1 := pk_rng K 4 (by omega); have h2 := pk_rng M 3 (by omega); have h3 := pk_rng B 193 (by omega)
  have v1 : IntKind.i64.wrap (1 + pk K 4) = fK K := IntWalk.i64_in _ (by omega)
  have v2 : IntKind.i64.wrap (1 + pk M 3) = fM M := IntWalk.i64_in _ (by omega)
  have v3 : IntKind.i64.wrap (8 + pk B 193) = fB B := IntWalk.i64_in _ (by omega)
  have hB0 : Below w.heap.size w ((w.alloc (.cells #[.int .i64 K, .int .i64 M, .int .i64 B] 23)).alloc (.cells #[.int .i64 0, .int .i64 0, .int .i64 0] 23)) := ((Below.refl _ _).alloc (Nat.le_refl _) _).alloc (by simp) _
  have hf0 : ∀ i, ((w.alloc (.cells #[.int .i64 K, .int .i64 M, .int .i64 B] 23)).alloc (.cells #[.int .i64 0, .int .i64 0, .int .i64 0] 23)).frozen? ⟨w.heap.size + 1, i, none⟩ = false := fun i => by simp
  go_enter Tryz.func6, Tryz.ntmps6
  go_wp2
  go_region_held3 (fun w' => w'.cell? ⟨w.heap.size, 0, none⟩ = some (.int .i64 K) ∧ w'.cell? ⟨w.heap.size, 1, none⟩ = some (.int .i64 M) ∧ w'.cell? ⟨w.heap.size, 2, none⟩ = some (.int .i64 B)) (first | (simp; done) | go_keep)
    (first | (go_at_call 36; refine (pick7_any _ _ _ (by omega) (by omega) (by omega) (by omega)).mono ?_; rintro e w' ⟨rfl, rfl⟩))
  all_goals go_wp2
  refine bodyPost_ret (v := .agg #[.int .i64 (fK K), .int .i64 (fM M), .int .i64 (fB B)]) ?_ rfl ⟨rfl, ?_⟩
  · simp only [results, Tryz.results6]
    simp [go_sem, v1, v2, v3]
  · exact (((Below.refl _ _).alloc (Nat.le_refl _) _).alloc (by simp) _).drew
def b8 (v : Int) : UInt8 := UInt8.ofNat v.toNat
theorem b8_val {v : Int} (h0 : 0 ≤ v) (h : v < 256) : v = (((b8 v).toNat : Nat) : Int) := by
  unfold b8
  rw [UInt8.toNat_ofNat']
  have : v.toNat % 2 ^ 8 = v.toNat := Nat.mod_eq_of_lt (by omega)
  rw [this]; omega
def rowB (b : UInt8) (k : Nat) : List UInt8 := List.replicate k b ++ List.replicate (120 - k) 0
theorem rowB_len (b : UInt8) {k : Nat} (h : k ≤ 120) : (rowB b k).length = 120 := by simp [rowB]; omega
theorem rowB_set (b : UInt8) {k : Nat} (h : k < 120) : (rowB b k).set k b = rowB b (k + 1) := by
  unfold rowB
  rw [List.set_append_right _ _ (by simp), List.length_replicate, Nat.sub_self, show 120 - k = (120 - (k + 1)) + 1 by omega, List.replicate_succ, List.set_cons_zero, List.replicate_succ' , List.append_assoc]; rfl
def blockS (n : Int) : ByteArray := lineOf (((rowB (b8 (pk n 251)) 120).set 0 (b8 (pk n 256))).set 1 (b8 (pk n 65536 / 256)))
theorem blockS_size (n : Int) : (blockS n).size = 120 := by unfold blockS; rw [lineOf_size, List.length_set, List.length_set, rowB_len _ (Nat.le_refl _)]
set_option maxRecDepth 100000 in
set_option maxHeartbeats 4000000 in
theorem block_any (n : Int) (w : World) (h1 : -9223372036854775808 ≤ n) (h2 : n ≤ 9223372036854775807) : Calls Tryz.prog 41 #[.int .i64 n] w (Same2 w (.string (blockS n))) := by
  obtain ⟨w1, hmk, hr, hb⟩ := BRow.make_run w 120 (by decide)
  have p1 := pk_rng n 251 (by decide)
  have p2 := pk_rng n 256 (by decide)
  have p3 := pk_rng n 65536 (by decide)
  have cA := fun W => pick11_any n 251 W h1 h2 (by decide) (by decide)
  have cB := fun W => pick11_any n 256 W h1 h2 (by decide) (by decide)
  have cC := fun W => pick11_any n 65536 W h1 h2 (by decide) (by decide)
  obtain ⟨g, hg⟩ : ∃ g, w.heap.size = g := ⟨_, rfl⟩
  rw [hg] at hmk hr
  replace hmk : (Instr.makeSlice 99 (.int .i64 120) (.int .i64 120)).run Tryz.prog w = .ok (.slice (some ⟨g, 0, none⟩) 120 120) w1 := hmk
  replace hb := hb.1
  replace hg := Lib.hid hg
  have hS : Hid (blockS n = lineOf (((rowB (b8 (pk n 251)) 120).set 0 (b8 (pk n 256))).set 1 (b8 (pk n 65536 / 256)))) := Lib.hid rfl
  generalize blockS n = S at *
  generalize pk n 251 = a at *
  generalize pk n 256 = b at *
  generalize pk n 65536 = c at *
  have q0 : c.tdiv 256 = c / 256 := Int.tdiv_eq_ediv_of_nonneg p3.1
  have u1 : IntKind.u8.wrap a = a := IntWalk.u8_in _ (by omega)
  have u2 : IntKind.u8.wrap b = b := IntWalk.u8_in _ (by omega)
  have u3 : IntKind.u8.wrap (c.tdiv 256) = c.tdiv 256 := IntWalk.u8_in _ (by omega)
  have u4 : IntKind.i64.wrap (c.tdiv 256) = c.tdiv 256 := IntWalk.i64_in _ (by omega)
  have b1 := b8_val p1.1 (show a < 256 by omega)
  have b2 := b8_val p2.1 p2.2
  have b3 : c.tdiv 256 = (((b8 (c / 256)).toNat : Nat) : Int) := by rw [q0]; exact b8_val (by omega) (by omega)
  replace b1 := Lib.hid b1
  replace b2 := Lib.hid b2
  replace b3 := Lib.hid b3
  clear q0
  generalize b8 a = a8 at *
  generalize b8 b = b8' at *
  generalize b8 (c / 256) = c8 at *
  have hgw : w.heap.size ≤ g := by have := hg.out; omega
  go_enter Tryz.func41, Tryz.ntmps41
  go_wp2_with (fail)
  clear hmk
  go_loopw [4] (fun i W => ∃ k : Nat, k ≤ 120 ∧ i = .int .i64 (k : Int) ∧ BRow W g (rowB a8 k) ∧ Below w.heap.size w W) (fun i _ => 120 - (RowKit.intOf i).toNat)
  case atStart => exact ⟨0, Nat.zero_le _, rfl, hr, hb⟩
  case round =>
    obtain ⟨k, hk, rfl, hR, hB⟩ := hrel
    rename World => W
    clear hr hb
    by_cases hlt : k < 120
    · have y1 : (k : Int) < 120 := by omega
      have hl := rowB_len a8 (k := k) hk
      have c1 := hR.cell (i := k) (by omega)
      have f1 := hR.frozen k
      have hR2 := hR.set (i := k) (by omega) a8 a b1.out
      rw [rowB_set a8 hlt] at hR2
      have hB2 := hB.setCell (p := ⟨g, k, none⟩) hgw (.int .u8 a)
      go_wp2_with (fail)
      refine (cA W).mono ?_
      rintro e w' ⟨rfl, rfl⟩
      go_wp2_with (fail)
      go_roundw
      case rel => exact ⟨k + 1, by omega, by go_num, hR2, hB2⟩
      case measure => simp [RowKit.intOf]; omega
    · obtain rfl : k = 120 := by omega
      have y1 : ¬ (((120 : Nat) : Int) < 120) := by omega
      have hl := rowB_len a8 (k := 120) (Nat.le_refl _)
      have c1 := hR.cell (i := 0) (by omega)
      have f1 := hR.frozen 0
      have R1 := hR.set (i := 0) (by omega) b8' b b2.out
      have B1 := hB.setCell (p := ⟨g, 0, none⟩) hgw (.int .u8 b)
      have hl1 : ((rowB a8 120).set 0 b8').length = 120 := by rw [List.length_set]; exact hl
      have c2 := R1.cell (i := 1) (by omega)
      have f2 := R1.frozen 1
      have R2 := R1.set (i := 1) (by omega) c8 (c.tdiv 256) b3.out
      have B2 := B1.setCell (p := ⟨g, 1, none⟩) hgw (.int .u8 (c.tdiv 256))
      have hst := R2.str 120 120 (by rw [List.length_set]; exact hl1.symm)
      rw [← hS.out] at hst
      go_wp2_with (fail)
      refine (cB W).mono ?_
      rintro e w' ⟨rfl, rfl⟩
      go_wp2_with (fail)
      refine (cC _).mono ?_
      rintro e w' ⟨rfl, rfl⟩
      go_wp2_with (fail)
      go_ret
      exact ⟨rfl, B2⟩
def letAt (ls : List Int) (i : Nat) : Int := if ls.length = 0 then (i : Int) else ls.getD (i % ls.length) 0
def dataL13 (k : Nat) (ls : List Int) : List ByteArray := (List.range k).map fun i => blockS (letAt ls i)
theorem dataL13_len (k : Nat) (ls : List Int) : (dataL13 k ls).length = k := by simp [dataL13]
theorem dataL13_right (k : Nat) (ls : List Int) : dataB (k : Int) (dataL13 k ls) = true := dataB_good (by rw [dataL13_len]) fun i hi => by simp [dataL13, blockS_size]
def allL (n : Nat) : List Int := (List.range n).map fun i : Nat => (i : Int)
theorem allL_len (n : Nat) : (allL n).length = n := by simp [allL]
def GivesZ (w : World) (l : List Int) (e : Ending) (w' : World) : Prop := ∃ v, e = .returned v ∧ Own w' w.heap.size 3 v (l.map (.int .i64)) ∧ Below w.heap.size w w'
set_option maxHeartbeats 2000000 in
theorem all13_any (k m : Nat) (B : Int) (w : World) (hk : k ≤ 100) (hm : m ≤ 100) : Calls Tryz.prog 31 #[.agg #[.int .i64 (k : Int), .int .i64 (m : Int), .int .i64 B]] w (GivesZ w (allL (k + m))) := by
  obtain ⟨i3, q1, q2, q3, q4⟩ := info_parts Tryz.infoI
  have hA := SGeoAt.new w (k : Int) (m : Int) B
  have hbS : Below w.heap.size w (w.alloc (.cells #[.int .i64 (k : Int), .int .i64 (m : Int), .int .i64 B] 23)) := (Below.refl _ w).alloc (Nat.le_refl _) _
  obtain ⟨W0, hW0⟩ : ∃ W0, W0 = w.alloc (.cells #[.int .i64 (k : Int), .int .i64 (m : Int), .int .i64 B] 23) := ⟨_, rfl⟩
  rw [← hW0] at hA hbS
  go_enter Tryz.func31, Tryz.ntmps31
  go_wp2_with (fail)
  rw [show w.alloc (.cells #[.int .i64 (k : Int), .int .i64 (m : Int), .int .i64 B] 23) = W0 from hW0.symm]
  clear hW0
  go_loopw [3, 4] (fun u t wr => ∃ i : Nat, i ≤ k + m ∧ t = .int .i64 (i : Int) ∧ Own wr W0.heap.size 3 u ((allL i).map (.int .i64)) ∧ Below W0.heap.size W0 wr) (fun _ t _ => k + m - (RowKit.intOf t).toNat)
  case atStart => exact ⟨0, Nat.zero_le _, rfl, Own.nil _ _ _, Below.refl _ _⟩
  case round =>
    obtain ⟨i, hi, rfl, ho, hB⟩ := hrel
    rename World => wr
    have d0 : wr.cell? ⟨w.heap.size, 0, none⟩ = some (.int .i64 (k : Int)) := (hB.cell (p := ⟨w.heap.size, 0, none⟩) hA.lt).trans hA.k
    have d1 : wr.cell? ⟨w.heap.size, 1, none⟩ = some (.int .i64 (m : Int)) := (hB.cell (p := ⟨w.heap.size, 1, none⟩) hA.lt).trans hA.m
    have HAA := Lib.hid hA
    clear hA
    by_cases hlt : i < k + m
    · have y1 : (i : Int) < (k : Int) + (m : Int) := by omega
      obtain ⟨v8, w8, hap, o8, b8, _⟩ := Own.pushA (P := Tryz.prog) (T := 26) Tryz.underlying26 q1 q2 q3 q4 rfl ho (.int .i64 (i : Int)) rfl hB.size (by rw [List.length_map, allL_len]; omega) (by rw [List.length_map, allL_len]; omega)
      have hnx : (allL i).map (Value.int .i64) ++ [.int .i64 (i : Int)] = (allL (i + 1)).map (Value.int .i64) := by simp [allL, List.range_succ]
      rw [hnx] at o8
      have HO := Lib.hid (And.intro o8 (hB.trans b8))
      clear o8 b8 hnx ho hB
      go_wp2_with (at_builtin; refine wpList_append_run hap _ _ rfl rfl rfl rfl rfl ?_)
      go_roundw
      case rel => exact ⟨i + 1, by omega, by go_num, HO.out.1, HO.out.2⟩
      case measure => simp [RowKit.intOf]; omega
    · obtain rfl : i = k + m := by omega
      have y1 : ¬ (((k + m : Nat) : Int) < (k : Int) + (m : Int)) := by omega
      have HO := Lib.hid (And.intro (ho.down hbS.size) (hbS.trans (hB.mono hbS.size)))
      clear ho hB
      go_wp2_with (fail)
      go_ret
      exact ⟨_, rfl, HO.out.1, HO.out.2⟩
end Go.Proofs.YtjgafpkpoppcbaaGreatDoor
end
section
namespace Go.Proofs.YtjgafpkpoppcbaaGreatDoor
open Go.RowKit
set_option maxRecDepth 100000
theorem RA.base {w w3 w1 : World} {S : Nat → Prop} {k n : Nat} {R : Rk} (h : RA w3 S w1 k n R) (hb : Below w.heap.size w w3) : RA w S w1 k n R := ⟨hb.trans (h.b.mono hb.size), fun x hx => Nat.le_trans hb.size (RA.from h x hx), h.h⟩
theorem tx_range (f : Nat → ByteArray) (i : Nat) : tx ((List.range i).map f) ++ [.string (f i)] = tx ((List.range (i + 1)).map f) := by
  simp [tx, List.range_succ]
set_option maxHeartbeats 2000000 in
theorem data13_any (k m : Nat) (B : Int) (v : Value) (ls : List Int) (w : World) (hk : k ≤ 100) (hv : Reads w v (ls.map (.int .i64))) (F : ∀ x ∈ ls, -9223372036854775808 ≤ x ∧ x ≤ 9223372036854775807) (hl : ls.length ≤ 9223372036854775807) : Calls Tryz.prog 9 #[.agg #[.int .i64 (k : Int), .int .i64 (m : Int), .int .i64 B], v] w (GivesT w (dataL13 k ls)) := by
  obtain ⟨i3, q1, q2, q3, q4⟩ := info_parts Tryz.infoS
  have hA := SGeoAt.new w (k : Int) (m : Int) B
  have hbS : Below w.heap.size w (w.alloc (.cells #[.int .i64 (k : Int), .int .i64 (m : Int), .int .i64 B] 23)) := (Below.refl _ w).alloc (Nat.le_refl _) _
  obtain ⟨W0, hW0⟩ : ∃ W0, W0 = w.alloc (.cells #[.int .i64 (k : Int), .int .i64 (m : Int), .int .i64 B] 23) := ⟨_, rfl⟩
  rw [← hW0] at hA hbS
  obtain ⟨va, vc, rfl, hit⟩ := Reads.items hv
  have HIT := Lib.hid hit
  have HF := Lib.hid F
  clear hv hit F
  go_enter Tryz.func9, Tryz.ntmps9
  go_wp2_with (fail)
  rw [show w.alloc (.cells #[.int .i64 (k : Int), .int .i64 (m : Int), .int .i64 B] 23) = W0 from hW0.symm]
  clear hW0
  go_loopw [5, 6, 7] (fun u t _ wr => ∃ i : Nat, i ≤ k ∧ t = .int .i64 (i : Int) ∧ Own wr W0.heap.size 9 u (tx (dataL13 i ls)) ∧ Below W0.heap.size W0 wr) (fun _ t _ _ => k - (RowKit.intOf t).toNat)
  case atStart => exact ⟨0, Nat.zero_le _, rfl, Own.nil _ _ _, Below.refl _ _⟩
  case round =>
    obtain ⟨i, hi, rfl, ho, hB⟩ := hrel
    rename World => wr
    have d0 : wr.cell? ⟨w.heap.size, 0, none⟩ = some (.int .i64 (k : Int)) := (hB.cell (p := ⟨w.heap.size, 0, none⟩) hA.lt).trans hA.k
    have HAA := Lib.hid hA
    clear hA
    by_cases hlt : i < k
    · have y1 : (i : Int) < (k : Int) := by omega
      have hle : Hid (letAt ls i = if ls.length = 0 then (i : Int) else ls.getD (i % ls.length) 0) := Lib.hid rfl
      have hnx : Hid (∀ s, s = blockS (letAt ls i) → tx (dataL13 i ls) ++ [.string s] = tx (dataL13 (i + 1) ls)) := Lib.hid fun s e => by rw [e]; exact tx_range (fun i => blockS (letAt ls i)) i
      have hdl := dataL13_len i ls
      have PUSH : Hid (∀ w3 s, Below wr.heap.size wr w3 → s = blockS (letAt ls i) → ∃ v8 w8, (Builtin.append_ #[39, 39] 39 #[_, .slice (some ⟨w3.heap.size, 0, none⟩) 1 1]).run Tryz.prog (w3.alloc (.cells #[.string s] 9)) = .ok v8 w8 ∧ Own w8 W0.heap.size 9 v8 (tx (dataL13 (i + 1) ls)) ∧ Below W0.heap.size W0 w8) := Lib.hid fun w3 s b3 e => by
        obtain ⟨v8, w8, hap, o8, b8, _⟩ := Own.pushA (P := Tryz.prog) (T := 39) Tryz.underlying39 q1 q2 q3 q4 rfl (ho.after b3) (.string s) rfl (Nat.le_trans hB.size b3.size) (by rw [List.length_map, hdl]; omega) (by rw [List.length_map, hdl]; omega)
        exact ⟨v8, w8, hap, by rw [← hnx.out s e]; exact o8, (hB.trans (b3.mono hB.size)).trans b8⟩
      by_cases h0 : ls.length = 0
      · have hc := hle.out
        rw [if_pos h0] at hc
        have y2 : ¬ (0 : Int) < (ls.length : Int) := by omega
        have cB := block_any (i : Int) wr (by omega) (by omega)
        have HC := Lib.hid hc
        clear hc hle ho hB h0
        go_wp2_with (fail)
        refine cB.mono ?_
        rintro e w3 ⟨rfl, b3⟩
        obtain ⟨v8, w8, hap, o8⟩ := PUSH.out w3 (blockS (i : Int)) b3 (by rw [HC.out])
        have HO := Lib.hid o8
        clear o8 cB b3
        go_wp2_with (at_builtin; refine wpList_append_run hap _ _ rfl rfl rfl rfl rfl ?_)
        go_roundw
        case rel => exact ⟨i + 1, by omega, by go_num, HO.out.1, HO.out.2⟩
        case measure => simp [RowKit.intOf]; omega
      · have hr : i % ls.length < ls.length := Nat.mod_lt _ (by omega)
        obtain ⟨cb, co, rfl, hcb, hc0⟩ := HIT.out (i % ls.length) hr
        have hc1 : wr.cell? ⟨cb, co + i % ls.length, none⟩ = _ := (((hbS.trans (hB.mono hbS.size))).cell (p := ⟨cb, co + i % ls.length, none⟩) hcb).trans hc0
        have hc := hle.out
        rw [if_neg h0, List.getD_eq_getElem?_getD, List.getElem?_eq_getElem hr, Option.getD_some] at hc
        have hin := HF.out _ (List.getElem_mem hr)
        obtain ⟨x, hx⟩ : ∃ x, ls[i % ls.length] = x := ⟨_, rfl⟩
        rw [hx] at hc hin hc1
        have hm1 : (i : Int).tmod (ls.length : Int) = ((i % ls.length : Nat) : Int) := by rw [Int.tmod_eq_emod_of_nonneg (by omega)]; rfl
        have hm2 : (i : Int) % (ls.length : Int) = ((i % ls.length : Nat) : Int) := rfl
        have y2 : (0 : Int) < (ls.length : Int) := by omega
        have y3 : ¬ ((ls.length : Int) = 0) := by omega
        generalize hq : i % ls.length = q at *
        have y4 : (q : Int) < (ls.length : Int) := by omega
        have e2 : IntKind.i64.wrap (q : Int) = (q : Int) := IntWalk.i64_in _ ⟨by omega, by omega⟩
        have cB := block_any x wr hin.1 hin.2
        have HC := Lib.hid hc
        clear hc hle ho hB hc0 hx hq hin
        go_wp2_with (fail)
        refine cB.mono ?_
        rintro e w3 ⟨rfl, b3⟩
        obtain ⟨v8, w8, hap, o8⟩ := PUSH.out w3 (blockS x) b3 (by rw [HC.out])
        have HO := Lib.hid o8
        clear o8 cB b3
        go_wp2_with (at_builtin; refine wpList_append_run hap _ _ rfl rfl rfl rfl rfl ?_)
        go_roundw
        case rel => exact ⟨i + 1, by omega, by go_num, HO.out.1, HO.out.2⟩
        case measure => simp [RowKit.intOf]; omega
    · obtain rfl : i = k := by omega
      have y1 : ¬ ((i : Int) < (i : Int)) := by omega
      have HO := Lib.hid (And.intro (ho.down hbS.size) (hbS.trans (hB.mono hbS.size)))
      clear ho hB
      go_wp2_with (fail)
      go_ret
      exact ⟨_, rfl, HO.out.1, HO.out.2⟩
def R00 (s : Nat) : Rk := ⟨fun _ => ⟨false, List.replicate s zero128, noV⟩, false, 0, 0⟩
def RacksTo (w : World) (n s : Nat) (e : Ending) (w' : World) : Prop := ∃ Sa ka w2 Sb kb, e = .returned (.tuple #[.pointer (some ⟨ka, 0, none⟩), .pointer (some ⟨kb, 0, none⟩)]) ∧ RA w Sa w' ka n (R00 s) ∧ KA w2 Sb w' kb n (R00 s) ∧ w.heap.size ≤ w2.heap.size ∧ (∀ x, Sa x → x < w2.heap.size)
set_option maxHeartbeats 4000000 in
theorem racks_any (k m sec : Nat) (B : Int) (w : World) (hg : gR (k : Int) (m : Int) B = true) (hs : gSectors (k : Int) (m : Int) B = (sec : Int)) : Calls Tryz.prog 7 #[.agg #[.int .i64 (k : Int), .int .i64 (m : Int), .int .i64 B]] w (RacksTo w (k + m) sec) := by
  have hkm := k_cases hg
  have hsec : 1 ≤ sec ∧ sec ≤ 256 := by
    have := sectors_eq hg
    rw [hs] at this
    have hd := div_rng (K := (k : Int)) (B := B) (by omega) ⟨hkm.2.2.1, hkm.2.2.2⟩
    have hm := div_lt hg (A := 0) (by omega) (by omega)
    rcases hkm.1 with e | e | e | e <;> rw [e] at this <;> omega
  have cS : ∀ W, Calls Tryz.prog 38 #[.agg #[.int .i64 (k : Int), .int .i64 (m : Int), .int .i64 B]] W fun e w' => e = .returned (.int .i64 ((k : Int) + (m : Int))) ∧ Below W.heap.size W w' := fun W => by rw [← slots_eq hg]; exact rslots_any _ _ _ W
  have cT : ∀ W, Calls Tryz.prog 39 #[.agg #[.int .i64 (k : Int), .int .i64 (m : Int), .int .i64 B]] W fun e w' => e = .returned (.int .i64 (sec : Int)) ∧ Below W.heap.size W w' := fun W => by rw [← hs]; exact rsectors_any _ _ _ W
  obtain ⟨g, hgs⟩ : ∃ g, w.heap.size = g := ⟨_, rfl⟩
  obtain ⟨W0, hW0⟩ : ∃ W0, W0 = w.alloc (.cells #[.int .i64 (k : Int), .int .i64 (m : Int), .int .i64 B] 23) := ⟨_, rfl⟩
  have hb0 : Below w.heap.size w W0 := by rw [hW0]; exact (Below.refl _ _).alloc (Nat.le_refl _) _
  have hgl : g < W0.heap.size := by rw [hW0, ← hgs]; simp
  have hg0 : W0.heap[g]? = some (.cells #[.int .i64 (k : Int), .int .i64 (m : Int), .int .i64 B] 23 (0, 0)) := by rw [hW0, ← hgs]; exact heap_alloc_new _ _
  have HG : Hid (∀ W, Below W0.heap.size W0 W → W.heap[g]? = some (.cells #[.int .i64 (k : Int), .int .i64 (m : Int), .int .i64 B] 23 (0, 0))) := Lib.hid fun W hW => (hW.block g hgl).trans hg0
  have HB0 := Lib.hid hb0
  have HGS := Lib.hid hgs
  clear hs hg0 hgl hb0 hg
  go_enter Tryz.func7, Tryz.ntmps7
  go_upto_region 1 with (fail)
  rw [show w.alloc (.cells #[.int .i64 (k : Int), .int .i64 (m : Int), .int .i64 B] 23) = W0 from hW0.symm]
  clear hW0 hgs
  refine wp_region_held_drew (S := fun W => W.heap[g]? = some (.cells #[.int .i64 (k : Int), .int .i64 (m : Int), .int .i64 B] 23 (0, 0))) (by kernel_rfl) (HG.out _ (Below.drew_ W0)) (fun hHeld => ?_)
  refine wpAnyH_takeD (i := 0) (v := .agg #[.int .i64 (k : Int), .int .i64 (m : Int), .int .i64 B]) (some 9) rfl (by kernel_rfl) (by kernel_rfl) (by kernel_rfl) rfl (fun _ _ _ h => h) (yieldsIf_load_run (by rfl) _ rfl rfl (fun _ hs => geo_load hs)) (by assumption) ?_
  simp only [Act.put, List.setIfInBounds_toArray, List.set_cons_zero, List.set_cons_succ]
  refine wpAnyH_takeD (i := 2) (v := .agg #[.int .i64 (k : Int), .int .i64 (m : Int), .int .i64 B]) (some 11) rfl (by kernel_rfl) (by kernel_rfl) (by kernel_rfl) rfl (fun _ _ _ h => h) (yieldsIf_load_run (by rfl) _ rfl rfl (fun _ hs => geo_load hs)) (by assumption) ?_
  simp only [Act.put, List.setIfInBounds_toArray, List.set_cons_zero, List.set_cons_succ]
  refine wpAnyH_ready (rs := [1]) (by kernel_rfl) (by simp) ?_
  refine AllReadyH.cons rfl (fun K hK => ?_) AllReadyH.nil
  go_simp
  refine (cS _).mono ?_
  rintro e w2 ⟨rfl, b2⟩
  have b12 := (Below.drew_ W0).trans b2
  refine hK.out _ _ (HG.out _ (b12)) (fun hHeld => ?_)
  clear hK
  try simp only [Act.put, List.setIfInBounds_toArray, List.set_cons_zero, List.set_cons_succ]
  refine wpAnyH_ready (rs := [3]) (by kernel_rfl) (by simp) ?_
  refine AllReadyH.cons rfl (fun K hK => ?_) AllReadyH.nil
  go_simp
  refine (cT w2).mono ?_
  rintro e w3 ⟨rfl, b3⟩
  have b13 := b12.trans (b3.mono b12.size)
  refine hK.out _ _ (HG.out _ (b13)) (fun hHeld => ?_)
  clear hK
  try simp only [Act.put, List.setIfInBounds_toArray, List.set_cons_zero, List.set_cons_succ]
  have cN := rs_new (k + m) sec w3 (by omega) (by omega) (by omega) (by omega)
  rw [Int.natCast_add] at cN
  refine wpAnyH_ready (rs := [4]) (by kernel_rfl) (by simp) ?_
  refine AllReadyH.cons rfl (fun K hK => ?_) AllReadyH.nil
  go_simp
  refine cN.mono ?_
  rintro e w4 ⟨Sa, ka, rfl, ha⟩
  have b14 := b13.trans (ha.b.mono b13.size)
  refine hK.out _ _ (HG.out _ (b14)) (fun hHeld => ?_)
  clear hK
  try simp only [Act.put, List.setIfInBounds_toArray, List.set_cons_zero, List.set_cons_succ]
  refine wpAnyH_takeD (i := 5) (v := .tuple #[.pointer (some ⟨ka, 0, none⟩), .int .i64 0]) (some 8) rfl (by kernel_rfl) (by kernel_rfl) (by kernel_rfl) rfl (fun _ _ _ h => h) (Or.inl ⟨by rfl, by rintro w hs1; first | rfl | (go_simp; done) | (go_simp; rfl)⟩) (by assumption) ?_
  simp only [Act.put, List.setIfInBounds_toArray, List.set_cons_zero, List.set_cons_succ]
  refine wpAnyH_takeD (i := 6) (v := .pointer (some ⟨ka, 0, none⟩)) (some 14) rfl (by kernel_rfl) (by kernel_rfl) (by kernel_rfl) rfl (fun _ _ _ h => h) (Or.inl ⟨by rfl, by rintro w hs1; first | rfl | (go_simp; done) | (go_simp; rfl)⟩) (by assumption) ?_
  simp only [Act.put, List.setIfInBounds_toArray, List.set_cons_zero, List.set_cons_succ]
  refine wpAnyH_takeD (i := 7) (v := .int .i64 0) (some 15) rfl (by kernel_rfl) (by kernel_rfl) (by kernel_rfl) rfl (fun _ _ _ h => h) (Or.inl ⟨by rfl, by rintro w hs1; first | rfl | (go_simp; done) | (go_simp; rfl)⟩) (by assumption) ?_
  simp only [Act.put, List.setIfInBounds_toArray, List.set_cons_zero, List.set_cons_succ]
  refine wpAnyH_takeD (i := 8) (v := .pointer (some ⟨ka, 0, none⟩)) (some 4) rfl (by kernel_rfl) (by kernel_rfl) (by kernel_rfl) rfl (fun _ _ _ h => h) (Or.inl ⟨by rfl, by rintro w hs1; first | rfl | (go_simp; done) | (go_simp; rfl)⟩) (by assumption) ?_
  simp only [Act.put, List.setIfInBounds_toArray, List.set_cons_zero, List.set_cons_succ]
  refine wpAnyH_takeD (i := 9) (v := .int .i64 0) (some 5) rfl (by kernel_rfl) (by kernel_rfl) (by kernel_rfl) rfl (fun _ _ _ h => h) (Or.inl ⟨by rfl, by rintro w hs1; first | rfl | (go_simp; done) | (go_simp; rfl)⟩) (by assumption) ?_
  simp only [Act.put, List.setIfInBounds_toArray, List.set_cons_zero, List.set_cons_succ]
  refine wpAnyH_done (by kernel_rfl) ?_ _
  have HB := Lib.hid b14
  have Ha := Lib.hid (And.intro ha b13)
  clear b2 b12 b3 b13 b14 cN ha hHeld
  go_upto_region 2 with (fail)
  refine wp_region_held_drew (S := fun W => W.heap[g]? = some (.cells #[.int .i64 (k : Int), .int .i64 (m : Int), .int .i64 B] 23 (0, 0))) (by kernel_rfl) (HG.out _ (HB.out.trans ((Below.drew_ w4).mono HB.out.size))) (fun hHeld => ?_)
  refine wpAnyH_takeD (i := 0) (v := .agg #[.int .i64 (k : Int), .int .i64 (m : Int), .int .i64 B]) (some 17) rfl (by kernel_rfl) (by kernel_rfl) (by kernel_rfl) rfl (fun _ _ _ h => h) (yieldsIf_load_run (by rfl) _ rfl rfl (fun _ hs => geo_load hs)) (by assumption) ?_
  simp only [Act.put, List.setIfInBounds_toArray, List.set_cons_zero, List.set_cons_succ]
  refine wpAnyH_takeD (i := 2) (v := .agg #[.int .i64 (k : Int), .int .i64 (m : Int), .int .i64 B]) (some 19) rfl (by kernel_rfl) (by kernel_rfl) (by kernel_rfl) rfl (fun _ _ _ h => h) (yieldsIf_load_run (by rfl) _ rfl rfl (fun _ hs => geo_load hs)) (by assumption) ?_
  simp only [Act.put, List.setIfInBounds_toArray, List.set_cons_zero, List.set_cons_succ]
  refine wpAnyH_ready (rs := [1]) (by kernel_rfl) (by simp) ?_
  refine AllReadyH.cons rfl (fun K hK => ?_) AllReadyH.nil
  go_simp
  refine (cS _).mono ?_
  rintro e w2 ⟨rfl, b2⟩
  have b12 := (Below.drew_ w4).trans b2
  refine hK.out _ _ (HG.out _ (HB.out.trans (b12.mono HB.out.size))) (fun hHeld => ?_)
  clear hK
  try simp only [Act.put, List.setIfInBounds_toArray, List.set_cons_zero, List.set_cons_succ]
  refine wpAnyH_ready (rs := [3]) (by kernel_rfl) (by simp) ?_
  refine AllReadyH.cons rfl (fun K hK => ?_) AllReadyH.nil
  go_simp
  refine (cT w2).mono ?_
  rintro e w3 ⟨rfl, b3⟩
  have b13 := b12.trans (b3.mono b12.size)
  refine hK.out _ _ (HG.out _ (HB.out.trans (b13.mono HB.out.size))) (fun hHeld => ?_)
  clear hK
  try simp only [Act.put, List.setIfInBounds_toArray, List.set_cons_zero, List.set_cons_succ]
  have cN := kt_new (k + m) sec w3 (by omega) (by omega) (by omega) (by omega)
  rw [Int.natCast_add] at cN
  refine wpAnyH_ready (rs := [4]) (by kernel_rfl) (by simp) ?_
  refine AllReadyH.cons rfl (fun K hK => ?_) AllReadyH.nil
  go_simp
  refine cN.mono ?_
  rintro e w5 ⟨Sb, kb, rfl, hb⟩
  have b14 := b13.trans (hb.b.mono b13.size)
  refine hK.out _ _ (HG.out _ (HB.out.trans (b14.mono HB.out.size))) (fun hHeld => ?_)
  clear hK
  try simp only [Act.put, List.setIfInBounds_toArray, List.set_cons_zero, List.set_cons_succ]
  refine wpAnyH_takeD (i := 5) (v := .tuple #[.pointer (some ⟨kb, 0, none⟩), .int .i64 0]) (some 16) rfl (by kernel_rfl) (by kernel_rfl) (by kernel_rfl) rfl (fun _ _ _ h => h) (Or.inl ⟨by rfl, by rintro w hs1; first | rfl | (go_simp; done) | (go_simp; rfl)⟩) (by assumption) ?_
  simp only [Act.put, List.setIfInBounds_toArray, List.set_cons_zero, List.set_cons_succ]
  refine wpAnyH_takeD (i := 6) (v := .pointer (some ⟨kb, 0, none⟩)) (some 22) rfl (by kernel_rfl) (by kernel_rfl) (by kernel_rfl) rfl (fun _ _ _ h => h) (Or.inl ⟨by rfl, by rintro w hs1; first | rfl | (go_simp; done) | (go_simp; rfl)⟩) (by assumption) ?_
  simp only [Act.put, List.setIfInBounds_toArray, List.set_cons_zero, List.set_cons_succ]
  refine wpAnyH_takeD (i := 7) (v := .int .i64 0) (some 23) rfl (by kernel_rfl) (by kernel_rfl) (by kernel_rfl) rfl (fun _ _ _ h => h) (Or.inl ⟨by rfl, by rintro w hs1; first | rfl | (go_simp; done) | (go_simp; rfl)⟩) (by assumption) ?_
  simp only [Act.put, List.setIfInBounds_toArray, List.set_cons_zero, List.set_cons_succ]
  refine wpAnyH_takeD (i := 8) (v := .pointer (some ⟨kb, 0, none⟩)) (some 6) rfl (by kernel_rfl) (by kernel_rfl) (by kernel_rfl) rfl (fun _ _ _ h => h) (Or.inl ⟨by rfl, by rintro w hs1; first | rfl | (go_simp; done) | (go_simp; rfl)⟩) (by assumption) ?_
  simp only [Act.put, List.setIfInBounds_toArray, List.set_cons_zero, List.set_cons_succ]
  refine wpAnyH_takeD (i := 9) (v := .int .i64 0) (some 7) rfl (by kernel_rfl) (by kernel_rfl) (by kernel_rfl) rfl (fun _ _ _ h => h) (Or.inl ⟨by rfl, by rintro w hs1; first | rfl | (go_simp; done) | (go_simp; rfl)⟩) (by assumption) ?_
  simp only [Act.put, List.setIfInBounds_toArray, List.set_cons_zero, List.set_cons_succ]
  refine wpAnyH_done (by kernel_rfl) ?_ _
  have hA4 := RA.after (RA.base (R := R00 sec) Ha.out.1 (HB0.out.trans (Ha.out.2.mono HB0.out.size))) b14
  have hlt := Ha.out.1.lt
  have hsz := b13.size
  have hw2 := HB0.out.size
  have hw3 := HB.out.size
  have HFin : Hid (RacksTo w (k + m) sec (.returned (.tuple #[.pointer (some ⟨ka, 0, none⟩), .pointer (some ⟨kb, 0, none⟩)])) w5) := Lib.hid ⟨Sa, ka, _, Sb, kb, rfl, hA4, hb, by omega, fun x hx => by have := hlt x hx; omega⟩
  clear b2 b12 b3 b13 b14 cN hb hHeld hA4 hlt hsz hw2 hw3
  go_wp2_with (fail)
  go_ret2
  exact HFin.out
end Go.Proofs.YtjgafpkpoppcbaaGreatDoor
end
section
namespace Go.Proofs.YtjgafpkpoppcbaaGreatDoor
open Go.RowKit
set_option maxRecDepth 100000
def sIdx (K M B N x : Int) : Nat := (gIndex K M B N x).toNat
section
variable {n : Nat} {R : Rk} {id K M B N : Int} {l : List Int}
theorem index_inj {k m x y : Int} (hg : gR k m B = true) (hN0 : 0 ≤ N) (hN1 : N < gStripes k m B) (hx : 0 ≤ x ∧ x < k + m) (hy : 0 ≤ y ∧ y < k + m) (h : gIndex k m B N x = gIndex k m B N y) : x = y := by
  have hs := slots_eq hg
  rw [index_eq hN0 hN1 hx.1 (by omega), index_eq hN0 hN1 hy.1 (by omega)] at h
  obtain ⟨k1, m1, _⟩ := k_cases hg
  obtain ⟨c, hc⟩ : ∃ c, N % (k + m) = c := ⟨_, rfl⟩
  rw [hc] at h
  clear hc hs
  rcases k1 with rfl | rfl | rfl | rfl <;> rcases m1 with rfl | rfl | rfl <;> omega
structure RdOk (n : Nat) (word : List ByteArray) (sh : List ByteArray) (hv : List Bool) : Prop where
  ls : sh.length = n
  lh : hv.length = n
  h : ∀ i, i < n → hv.getD i false = true → sh.getD i ⟨#[]⟩ = word.getD i ⟨#[]⟩
theorem count_set {h : List Bool} {x : Nat} (hx : x < h.length) (h0 : h.getD x false = false) (b : Bool) : (h.set x b).count true = h.count true + if b = true then 1 else 0 := by
  have e0 : h[x] = false := by rwa [List.getD_eq_getElem?_getD, List.getElem?_eq_getElem hx] at h0
  rw [List.count_set hx, e0]
  cases b <;> simp
theorem rdF_good (word : List ByteArray) (idx : Int → Nat) (hidx : ∀ x ∈ l, (gIndex K M B N x).toNat = idx x ∧ idx x < n) (hinj : ∀ x ∈ l, ∀ y ∈ l, idx x = idx y → x = y) (hs : ∀ x ∈ l, srB n R id x (gSector K M B N) = true → srS n R id x (gSector K M B N) = word.getD (idx x) ⟨#[]⟩) :
    ∀ (l' : List Int), l'.Nodup → (∀ x ∈ l', x ∈ l) → ∀ sh hv bad, RdOk n word sh hv → (∀ x ∈ l', hv.getD (idx x) false = false) →
      RdOk n word (rdF n R id K M B N sh hv bad l').1 (rdF n R id K M B N sh hv bad l').2.1 ∧ (rdF n R id K M B N sh hv bad l').2.1.count true = hv.count true + (l'.filter fun x => srB n R id x (gSector K M B N)).length ∧ (rdF n R id K M B N sh hv bad l').2.2 = bad ++ l'.filter fun x => !srB n R id x (gSector K M B N)
  | [], _, _, sh, hv, bad, ho, _ => ⟨ho, by simp [rdF], by simp [rdF]⟩
  | x :: xs, hnd, hsub, sh, hv, bad, ho, hz => by
    obtain ⟨hx, hnx⟩ := List.nodup_cons.1 hnd
    have hxl := hsub x List.mem_cons_self
    obtain ⟨e1, e2⟩ := hidx x hxl
    have hzx := hz x List.mem_cons_self
    have hok : RdOk n word (sh.set (idx x) (srS n R id x (gSector K M B N))) (hv.set (idx x) (srB n R id x (gSector K M B N))) := ⟨by rw [List.length_set]; exact ho.ls, by rw [List.length_set]; exact ho.lh, fun i hi hb => by
      by_cases e : i = idx x
      · subst e
        rw [List.getD_eq_getElem?_getD, List.getElem?_set_self (by rw [ho.lh]; exact e2), Option.getD_some] at hb
        rw [List.getD_eq_getElem?_getD, List.getElem?_set_self (by rw [ho.ls]; exact e2), Option.getD_some]
        exact hs x hxl hb
      · rw [List.getD_eq_getElem?_getD, List.getElem?_set_ne (fun z => e z.symm)] at hb
        rw [List.getD_eq_getElem?_getD, List.getElem?_set_ne (fun z => e z.symm), ← List.getD_eq_getElem?_getD]
        exact ho.h i hi (by rw [List.getD_eq_getElem?_getD]; exact hb)⟩
    have hz' : ∀ y ∈ xs, (hv.set (idx x) (srB n R id x (gSector K M B N))).getD (idx y) false = false := fun y hy => by
      have hne : idx x ≠ idx y := fun e => hx (by rw [hinj x hxl y (hsub y (List.mem_cons_of_mem _ hy)) e]; exact hy)
      rw [List.getD_eq_getElem?_getD, List.getElem?_set_ne hne, ← List.getD_eq_getElem?_getD]
      exact hz y (List.mem_cons_of_mem _ hy)
    have ih := rdF_good word idx hidx hinj hs xs hnx (fun y hy => hsub y (List.mem_cons_of_mem _ hy)) _ _ (if srB n R id x (gSector K M B N) = true then bad else bad ++ [x]) hok hz'
    have er : rdF n R id K M B N sh hv bad (x :: xs) = rdF n R id K M B N (sh.set (idx x) (srS n R id x (gSector K M B N))) (hv.set (idx x) (srB n R id x (gSector K M B N))) (if srB n R id x (gSector K M B N) = true then bad else bad ++ [x]) xs := by
      rw [← e1]; rfl
    rw [er]
    have hc := count_set (h := hv) (x := idx x) (by rw [ho.lh]; exact e2) hzx (srB n R id x (gSector K M B N))
    refine ⟨ih.1, ?_, ?_⟩
    · rw [ih.2.1, hc]
      cases hb : srB n R id x (gSector K M B N) with
      | true => rw [List.filter_cons_of_pos (by simpa using hb), List.length_cons]; simp; omega
      | false => rw [List.filter_cons_of_neg (by simp [hb])]; simp
    · rw [ih.2.2]
      cases hb : srB n R id x (gSector K M B N) with
      | true => rw [List.filter_cons_of_neg (by simp [hb])]; simp
      | false => rw [List.filter_cons_of_pos (by simp [hb])]; simp
theorem stR_good {k m : Nat} {data : List ByteArray} (hal : allowB n R id (k : Int) (m : Int) B l N = true) (hoff : R.off = false) (hd : dataB (k : Int) data = true) (hs : ∀ x ∈ l, srB n R id x (gSector (k : Int) (m : Int) B N) = true → srS n R id x (gSector (k : Int) (m : Int) B N) = (wordL data k m).getD (sIdx (k : Int) (m : Int) B N x) ⟨#[]⟩) :
    stR n R id (k : Int) (m : Int) B l N = if k ≤ (l.filter fun x => srB n R id x (gSector (k : Int) (m : Int) B N)).length then (data, l.filter (fun x => !srB n R id x (gSector (k : Int) (m : Int) B N)), 0) else ([], l.filter (fun x => !srB n R id x (gSector (k : Int) (m : Int) B N)), 130) := by
  obtain ⟨hg, hn, _, _, ⟨hin, hnd⟩, hN0, hN1⟩ := allow_facts hal
  have hkm := k_cases hg
  have hnk : n = k + m := by rw [slots_eq hg] at hn; omega
  have hr := data_rect hd
  have hgood := rdF_good (n := n) (R := R) (id := id) (K := (k : Int)) (M := (m : Int)) (B := B) (N := N) (l := l) (wordL data k m) (sIdx (k : Int) (m : Int) B N) (fun x hx => by
      obtain ⟨i, hi, hlt⟩ := index_nat hal hx
      refine ⟨rfl, ?_⟩
      unfold sIdx
      rw [hi]; omega) (fun x hx y hy e => by
      obtain ⟨i, hi, hlt⟩ := index_nat hal hx
      obtain ⟨j, hj, hlj⟩ := index_nat hal hy
      unfold sIdx at e
      refine index_inj hg hN0 hN1 ⟨(hin x hx).1, by have := (hin x hx).2; omega⟩ ⟨(hin y hy).1, by have := (hin y hy).2; omega⟩ ?_
      rw [hi, hj] at e ⊢
      omega) hs l hnd (fun _ h => h) (List.replicate n ⟨#[]⟩) (List.replicate n false) [] ⟨by simp, by simp, fun i hi h => by simp [List.getD_eq_getElem?_getD, hi] at h⟩ (fun x _ => by
      rw [List.getD_eq_getElem?_getD]
      cases h : (List.replicate n false)[sIdx (k : Int) (m : Int) B N x]? with
      | none => rfl
      | some b => have := List.mem_of_getElem? h; rw [List.eq_of_mem_replicate this]; rfl)
  obtain ⟨g1, g2, g3⟩ := hgood
  have hA : rdA n R id (k : Int) (m : Int) B N l = rdF n R id (k : Int) (m : Int) B N (List.replicate n ⟨#[]⟩) (List.replicate n false) [] l := rfl
  rw [← hA] at g1 g2 g3
  have hcnt : (List.replicate n false).count true = 0 := by rw [List.count_replicate]; rfl
  rw [hcnt, Nat.zero_add] at g2
  rw [List.nil_append] at g3
  have gd : Good data k m (rdA n R id (k : Int) (m : Int) B N l).1 (rdA n R id (k : Int) (m : Int) B N l).2.1 := ⟨by rw [g1.ls, hnk], by rw [g1.lh, hnk], fun i hi => g1.h i (by omega)⟩
  unfold stR
  rw [if_pos hal, if_neg (by rw [hoff]; decide), g3]
  by_cases hc : k ≤ (l.filter fun x => srB n R id x (gSector (k : Int) (m : Int) B N)).length
  · obtain ⟨d1, d2⟩ := decode_good gd hr (by omega) (by omega) (by omega) (by omega) (by decide) (by decide) (by rw [g2]; exact hc)
    rw [if_pos hc, d1, d2, if_pos rfl]
  · obtain ⟨d1, d2⟩ := decode_few gd hr (by omega) (by omega) (by omega) (by omega) (by decide) (by decide) (by rw [g2]; omega)
    rw [if_neg hc, if_neg (by rw [d2]; decide)]
end
end Go.Proofs.YtjgafpkpoppcbaaGreatDoor
end
section
namespace Go.Proofs.YtjgafpkpoppcbaaGreatDoor
open Go.RowKit
set_option maxRecDepth 100000
theorem seal_ok {i l a : Nat} {p : ByteArray} (m : Made i l a p) : sealE (i : Int) (l : Int) (a : Int) p = 0 ∧ sealL (i : Int) (l : Int) (a : Int) p = secS i l a p := by
  have h : sealOk (i : Int) (l : Int) (a : Int) p = true := by
    have := m.i1; have := m.i2; have := m.l; have := m.a; have := m.q
    unfold sealOk; rw [decide_eq_true_iff]; omega
  exact ⟨by unfold sealE; rw [if_pos h], by unfold sealL; rw [if_pos h]; simp⟩
structure Well (n : Nat) (R : Rk) (l : List Int) : Prop where
  off : R.off = false
  ar : R.armed = 0
  n7 : n ≤ 7
  i : ∀ x ∈ l, 0 ≤ x ∧ x < (n : Int)
  al : ∀ x ∈ l, (R.M x.toNat).fd = false
theorem akE_well {n : Nat} {R : Rk} {x : Int} (h1 : R.off = false) (h2 : R.armed = 0) (hx : 0 ≤ x ∧ x < (n : Int)) : akE n R x = 0 ∧ akR n R x = ⟨R.M, false, R.acts + 1, 0⟩ := by
  have hk : hasK n x = true := by
    obtain ⟨i, rfl⟩ := Int.eq_ofNat_of_zero_le hx.1
    exact hasK_nat (by omega)
  refine ⟨by unfold akE; rw [if_pos hk, if_neg (by rw [h1]; decide), if_neg (by rw [h2]; decide)], ?_⟩
  unfold akR
  rw [if_pos ⟨hk, h1⟩, h2]
  rfl
section
variable {n : Nat} {K M B N : Int} {sh : List ByteArray} {a i : Nat}
def wrTo (i a : Nat) (f : Int → ByteArray) (l : List Int) (Mm : Nat → Mst) (j : Nat) : Mst := if (j : Int) ∈ l then wrM (Mm j) (a : Int) (secS i j a (f (j : Int))) else Mm j
theorem wrTo_nil (f : Int → ByteArray) (Mm : Nat → Mst) : wrTo i a f [] Mm = Mm := funext fun j => if_neg (by simp)
theorem wr1_well {R : Rk} {x : Int} (h1 : R.off = false) (h2 : R.armed = 0) (hx : 0 ≤ x ∧ x < (n : Int)) (hal : (R.M x.toNat).fd = false) (n7 : n ≤ 7) (hga : gSector K M B N = (a : Int)) (ha : a ≤ 255) (hla : a < (R.M x.toNat).L.length) (i1 : 1 ≤ i) (i2 : i ≤ 65535) (hp : (sh.getD (sIdx K M B N x) ⟨#[]⟩).size ≤ 120) :
    wr1 n (i : Int) K M B N sh R x = (⟨upd R.M x.toNat (wrM (R.M x.toNat) (a : Int) (secS i x.toNat a (sh.getD (sIdx K M B N x) ⟨#[]⟩))), false, R.acts + 1, 0⟩, 0) := by
  obtain ⟨y, rfl⟩ := Int.eq_ofNat_of_zero_le hx.1
  rw [Int.toNat_natCast] at *
  have hm : Made i y a (sh.getD (sIdx K M B N (y : Int)) ⟨#[]⟩) := ⟨i1, i2, by omega, ha, hp⟩
  obtain ⟨e1, e2⟩ := seal_ok hm
  obtain ⟨a1, a2⟩ := akE_well h1 h2 hx
  have hw : wrRE n R (y : Int) (a : Int) (secS i y a (sh.getD (sIdx K M B N (y : Int)) ⟨#[]⟩)) = 0 := by
    unfold wrRE
    rw [if_pos a1, Int.toNat_natCast]
    unfold wrE
    rw [if_neg (by rw [hal]; decide), if_pos ⟨by unfold hasN; simp; omega, hm.sz⟩]
  have hr : wrR n R (y : Int) (a : Int) (secS i y a (sh.getD (sIdx K M B N (y : Int)) ⟨#[]⟩)) = ⟨upd R.M y (wrM (R.M y) (a : Int) (secS i y a (sh.getD (sIdx K M B N (y : Int)) ⟨#[]⟩))), false, R.acts + 1, 0⟩ := by
    unfold wrR
    rw [if_pos a1, a2, Int.toNat_natCast]
  unfold wr1
  rw [hga, Int.toNat_natCast]
  show wsM n (i : Int) (y : Int) R a [sh.getD (sIdx K M B N (y : Int)) ⟨#[]⟩] = _
  unfold wsM
  rw [if_pos e1, e2, if_pos hw, hr]
  rfl
theorem wrTo_cons {f : Int → ByteArray} {x : Int} {xs : List Int} {Mm : Nat → Mst} (hx : 0 ≤ x) (hnd : x ∉ xs) (j : Nat) : wrTo i a f xs (upd Mm x.toNat (wrM (Mm x.toNat) (a : Int) (secS i x.toNat a (f x)))) j = wrTo i a f (x :: xs) Mm j := by
  obtain ⟨y, rfl⟩ := Int.eq_ofNat_of_zero_le hx
  rw [Int.toNat_natCast]
  unfold wrTo
  by_cases e : j = y
  · subst e
    rw [if_neg hnd, upd_same, if_pos List.mem_cons_self]
  · rw [upd_other _ _ _ _ e]
    by_cases h : (j : Int) ∈ xs
    · rw [if_pos h, if_pos (List.mem_cons_of_mem _ h)]
    · rw [if_neg h, if_neg fun z => (List.mem_cons.1 z).elim (fun z => e (by omega)) h]
theorem ea_write (i1 : 1 ≤ i) (i2 : i ≤ 65535) (ha : a ≤ 255) (hga : gSector K M B N = (a : Int)) : ∀ (l : List Int) (R : Rk) (acc : List Int), Well n R l → l.Nodup → (∀ x ∈ l, a < (R.M x.toNat).L.length) → (∀ x ∈ l, (sh.getD (sIdx K M B N x) ⟨#[]⟩).size ≤ 120) →
    ea (wr1 n (i : Int) K M B N sh) R acc l = (⟨wrTo i a (fun x => sh.getD (sIdx K M B N x) ⟨#[]⟩) l R.M, false, R.acts + (l.length : Int), 0⟩, acc, 0)
  | [], R, acc, h, _, _, _ => by
    have h1 := h.off; have h2 := h.ar
    cases R
    simp only at h1 h2
    subst h1; subst h2
    unfold ea
    rw [wrTo_nil]
    simp
  | x :: xs, R, acc, h, hnd, hl, hp => by
    obtain ⟨hx, hnx⟩ := List.nodup_cons.1 hnd
    have hxr := h.i x List.mem_cons_self
    have hw := wr1_well (n := n) (K := K) (M := M) (B := B) (N := N) (sh := sh) h.off h.ar hxr (h.al x List.mem_cons_self) h.n7 hga ha (hl x List.mem_cons_self) i1 i2 (hp x List.mem_cons_self)
    have hne : ∀ y ∈ xs, y.toNat ≠ x.toNat := fun y hy e => hx (by
      have := (h.i y (List.mem_cons_of_mem _ hy)).1
      rw [show x = y by omega]; exact hy)
    unfold ea
    rw [hw, if_pos rfl]
    have ih := ea_write i1 i2 ha hga xs ⟨upd R.M x.toNat (wrM (R.M x.toNat) (a : Int) (secS i x.toNat a (sh.getD (sIdx K M B N x) ⟨#[]⟩))), false, R.acts + 1, 0⟩ acc ⟨rfl, rfl, h.n7, fun y hy => h.i y (List.mem_cons_of_mem _ hy), fun y hy => by
      show (upd R.M x.toNat _ y.toNat).fd = false
      rw [upd_other _ _ _ _ (hne y hy)]; exact h.al y (List.mem_cons_of_mem _ hy)⟩ hnx (fun y hy => by
      show a < (upd R.M x.toNat _ y.toNat).L.length
      rw [upd_other _ _ _ _ (hne y hy)]; exact hl y (List.mem_cons_of_mem _ hy)) (fun y hy => hp y (List.mem_cons_of_mem _ hy))
    rw [ih]
    have e1 : (fun j => wrTo i a (fun x => sh.getD (sIdx K M B N x) ⟨#[]⟩) xs (upd R.M x.toNat (wrM (R.M x.toNat) (a : Int) (secS i x.toNat a (sh.getD (sIdx K M B N x) ⟨#[]⟩)))) j) = wrTo i a (fun x => sh.getD (sIdx K M B N x) ⟨#[]⟩) (x :: xs) R.M := funext fun j => wrTo_cons (f := fun x => sh.getD (sIdx K M B N x) ⟨#[]⟩) hxr.1 hx j
    have e2 : R.acts + 1 + (xs.length : Int) = R.acts + ((x :: xs).length : Int) := by rw [List.length_cons]; omega
    show ((⟨wrTo i a (fun x => sh.getD (sIdx K M B N x) ⟨#[]⟩) xs _, false, R.acts + 1 + (xs.length : Int), 0⟩ : Rk), acc, (0 : Int)) = _
    rw [e2]
    exact congrArg (fun z => ((⟨z, false, R.acts + ((x :: xs).length : Int), 0⟩ : Rk), acc, (0 : Int))) e1
def flTo (l : List Int) (Mm : Nat → Mst) (j : Nat) : Mst := if (j : Int) ∈ l then flM (Mm j) else Mm j
theorem flTo_nil (Mm : Nat → Mst) : flTo [] Mm = Mm := funext fun j => if_neg (by simp)
theorem flTo_cons {x : Int} {xs : List Int} {Mm : Nat → Mst} (hx : 0 ≤ x) (hnd : x ∉ xs) (j : Nat) : flTo xs (upd Mm x.toNat (flM (Mm x.toNat))) j = flTo (x :: xs) Mm j := by
  obtain ⟨y, rfl⟩ := Int.eq_ofNat_of_zero_le hx
  rw [Int.toNat_natCast]
  unfold flTo
  by_cases e : j = y
  · subst e
    rw [if_neg hnd, upd_same, if_pos List.mem_cons_self]
  · rw [upd_other _ _ _ _ e]
    by_cases h : (j : Int) ∈ xs
    · rw [if_pos h, if_pos (List.mem_cons_of_mem _ h)]
    · rw [if_neg h, if_neg fun z => (List.mem_cons.1 z).elim (fun z => e (by omega)) h]
theorem ea_flush : ∀ (l : List Int) (R : Rk) (acc : List Int), Well n R l → l.Nodup → ea (fl1 n) R acc l = (⟨flTo l R.M, false, R.acts + (l.length : Int), 0⟩, acc, 0)
  | [], R, acc, h, _ => by
    have h1 := h.off; have h2 := h.ar
    cases R
    simp only at h1 h2
    subst h1; subst h2
    unfold ea
    rw [flTo_nil]
    simp
  | x :: xs, R, acc, h, hnd => by
    obtain ⟨hx, hnx⟩ := List.nodup_cons.1 hnd
    have hxr := h.i x List.mem_cons_self
    have hal := h.al x List.mem_cons_self
    obtain ⟨a1, a2⟩ := akE_well h.off h.ar hxr
    have hw : fl1 n R x = (⟨upd R.M x.toNat (flM (R.M x.toNat)), false, R.acts + 1, 0⟩, 0) := by
      unfold fl1 flR flRE
      rw [if_pos a1, if_pos a1, a2]
      unfold flE
      rw [if_neg (by rw [hal]; decide)]
    have hne : ∀ y ∈ xs, y.toNat ≠ x.toNat := fun y hy e => hx (by
      have := (h.i y (List.mem_cons_of_mem _ hy)).1
      rw [show x = y by omega]; exact hy)
    unfold ea
    rw [hw, if_pos rfl]
    have ih := ea_flush xs ⟨upd R.M x.toNat (flM (R.M x.toNat)), false, R.acts + 1, 0⟩ acc ⟨rfl, rfl, h.n7, fun y hy => h.i y (List.mem_cons_of_mem _ hy), fun y hy => by
      show (upd R.M x.toNat _ y.toNat).fd = false
      rw [upd_other _ _ _ _ (hne y hy)]; exact h.al y (List.mem_cons_of_mem _ hy)⟩ hnx
    rw [ih]
    have e1 : flTo xs (upd R.M x.toNat (flM (R.M x.toNat))) = flTo (x :: xs) R.M := funext fun j => flTo_cons hxr.1 hx j
    have e2 : R.acts + 1 + (xs.length : Int) = R.acts + ((x :: xs).length : Int) := by rw [List.length_cons]; omega
    show ((⟨flTo xs _, false, R.acts + 1 + (xs.length : Int), 0⟩ : Rk), acc, (0 : Int)) = _
    rw [e2, e1]
end
end Go.Proofs.YtjgafpkpoppcbaaGreatDoor
end
section
namespace Go.Proofs.YtjgafpkpoppcbaaGreatDoor
open Go.RowKit
set_option maxRecDepth 100000
def Holds (n : Nat) (R : Rk) (x at_ : Int) (s : ByteArray) : Prop := rdRE n R x at_ = 0 ∧ rdRS n R x at_ = s
section
variable {n : Nat} {R : Rk} {i a j : Nat} {p s : ByteArray}
theorem rhE_well {x : Int} (h1 : R.off = false) (hx : 0 ≤ x ∧ x < (n : Int)) : rhE n R x = 0 := by
  have hk : hasK n x = true := by
    obtain ⟨i, rfl⟩ := Int.eq_ofNat_of_zero_le hx.1
    exact hasK_nat (by omega)
  unfold rhE; rw [if_pos hk, if_neg (by rw [h1]; decide)]
theorem holds_of {x : Int} (h1 : R.off = false) (hx : 0 ≤ x ∧ x < (n : Int)) (hal : (R.M x.toNat).fd = false) (hl : a < (R.M x.toNat).L.length) (hs : lastOf ((R.M x.toNat).V (a : Int)) ((R.M x.toNat).L.getD a zero128) = s) : Holds n R x (a : Int) s := by
  have hr := rhE_well h1 hx
  have hh : hasN (R.M x.toNat).L (a : Int) = true := by unfold hasN; simp; omega
  refine ⟨?_, ?_⟩
  · unfold rdRE; rw [if_pos hr]; unfold rdE; rw [if_neg (by rw [hal]; decide), if_pos hh]
  · unfold rdRS; rw [if_pos hr]; unfold rdS; rw [if_neg (by rw [hal]; decide), if_pos hh, Int.toNat_natCast]; exact hs
theorem pad_id (h : p.size = 120) : padB p 120 = p := by
  unfold padB
  rw [Pk.pad_full (by simpa using h)]
  cases p; simp [lineOf]
theorem sr_sealed {x : Int} (hx : 0 ≤ x) (m : Made i x.toNat a p) (hp : p.size = 120) (h : Holds n R x (a : Int) (secS i x.toNat a p)) : srB n R (i : Int) x (a : Int) = true ∧ srS n R (i : Int) x (a : Int) = p := by
  obtain ⟨y, rfl⟩ := Int.eq_ofNat_of_zero_le hx
  rw [Int.toNat_natCast] at m h
  obtain ⟨o1, o2, o3⟩ := open_sealed m.i1 m.i2 m.l m.a m.q (i : Int) (y : Int) (a : Int)
  rw [decide_eq_true ⟨rfl, rfl, rfl⟩] at o1
  unfold srB srS
  rw [h.1, h.2, o1]
  refine ⟨rfl, ?_⟩
  rw [if_pos rfl]
  unfold openS
  rw [if_pos o1, o2, pad_id hp]
theorem sr_shut {x at_ id : Int} (h : Holds n R x at_ s) (hs : openOk id x at_ s = false) : srB n R id x at_ = false := by
  unfold srB
  rw [h.2, hs, Bool.and_false]
theorem sr_dead {x at_ id : Int} (h : rdRE n R x at_ ≠ 0) : srB n R id x at_ = false := by
  unfold srB
  rw [decide_eq_false h, Bool.false_and]
theorem sec_list (q : ByteArray) : (secS i j a q).data.toList = Sec.secL i j a q.data.toList := by simp [secS, lineOf]
theorem rot_shut (m : Made i j a p) {k b : Nat} (hk : k < 128) (hb0 : b ≠ 0) (hb : b < 256) : openOk (i : Int) (j : Int) (a : Int) (rotS (secS i j a p) k b) = false := by
  have hq : p.data.toList.length ≤ 120 := by have := m.q; simpa using this
  have hl := Sec.sec_length i j a hq
  unfold rotS
  rw [sec_list]
  have hne : UInt8.ofNat (((Sec.secL i j a p.data.toList).getD k 0).toNat ^^^ b) ≠ (Sec.secL i j a p.data.toList).getD k 0 := xor_ne _ b hb hb0
  have hT : ∀ t, t ≠ k → ((Sec.secL i j a p.data.toList).set k (UInt8.ofNat (((Sec.secL i j a p.data.toList).getD k 0).toNat ^^^ b))).getD t 0 = (Sec.secL i j a p.data.toList).getD t 0 := fun t ht => by
    rw [List.getD_eq_getElem?_getD, List.getElem?_set_ne (fun e => ht e.symm), ← List.getD_eq_getElem?_getD]
  have hdiff : (Sec.secL i j a p.data.toList).set k (UInt8.ofNat (((Sec.secL i j a p.data.toList).getD k 0).toNat ^^^ b)) ≠ Sec.secL i j a p.data.toList := fun e => hne (by
    have := congrArg (fun l => l.getD k 0) e
    simp only [List.getD_eq_getElem?_getD, List.getElem?_set_self (show k < (Sec.secL i j a p.data.toList).length by omega), Option.getD_some] at this
    rw [List.getD_eq_getElem?_getD]; exact this)
  obtain ⟨f, hf, hfk, hfk2⟩ : ∃ f, (f ≤ 120 ∨ f = 124) ∧ f ≤ k ∧ k < f + 4 := by
    by_cases h1 : k ≤ 120
    · exact ⟨k, .inl h1, Nat.le_refl _, by omega⟩
    · by_cases h2 : k < 124
      · exact ⟨120, .inl (Nat.le_refl _), by omega, by omega⟩
      · exact ⟨124, .inr rfl, by omega, by omega⟩
  exact turn_shut m _ (by rw [List.length_set]; exact hl) hf (fun t ht => hT t (by omega)) hdiff
theorem zero_shut128 (id x at_ : Int) : openOk id x at_ zero128 = false := zero_shut id x at_ 128
end
end Go.Proofs.YtjgafpkpoppcbaaGreatDoor
end
section
namespace Go.Proofs.YtjgafpkpoppcbaaGreatDoor
open Go.RowKit
set_option maxRecDepth 100000
structure Hale (n sec : Nat) (R : Rk) : Prop where
  off : R.off = false
  ar : R.armed = 0
  n1 : 1 ≤ n
  n7 : n ≤ 7
  al : ∀ j, j < n → (R.M j).fd = false
  l : ∀ j, j < n → (R.M j).L.length = sec
section
variable {n sec k m a i : Nat} {R : Rk} {B N id : Int} {l : List Int} {data : List ByteArray}
theorem hale_00 (h1 : 1 ≤ n) (h7 : n ≤ 7) : Hale n sec (R00 sec) := ⟨rfl, rfl, h1, h7, fun _ _ => rfl, fun _ _ => by simp [R00]⟩
theorem Hale.well (h : Hale n sec R) (hl : ∀ x ∈ l, 0 ≤ x ∧ x < (n : Int)) : Well n R l := ⟨h.off, h.ar, h.n7, hl, fun x hx => h.al _ (by have := hl x hx; omega)⟩
theorem Hale.sz (h : Hale n sec R) : szK R = sec := h.l 0 (by have := h.n1; omega)
theorem allL_mem {x : Int} : x ∈ allL n ↔ 0 ≤ x ∧ x < (n : Int) := by
  unfold allL
  rw [List.mem_map]
  constructor
  · rintro ⟨j, hj, rfl⟩
    have := List.mem_range.1 hj
    omega
  · intro ⟨h0, h1⟩
    exact ⟨x.toNat, List.mem_range.2 (by omega), by omega⟩
theorem allL_nodup : (allL n).Nodup := by
  unfold allL
  exact List.Pairwise.map _ (fun a b h e => h (by omega)) List.nodup_range
theorem allow_all (h : Hale n sec R) (hg : gR (k : Int) (m : Int) B = true) (hn : n = k + m) (hs : gSectors (k : Int) (m : Int) B = (sec : Int)) (hid : 1 ≤ id ∧ id ≤ 65535) (hN0 : 0 ≤ N) (hN1 : N < gStripes (k : Int) (m : Int) B) (hl : ∀ x ∈ l, 0 ≤ x ∧ x < (n : Int)) (hnd : l.Nodup) : allowB n R id (k : Int) (m : Int) B l N = true := by
  unfold allowB sfitsB srightB
  rw [decide_eq_true hid.1, decide_eq_true hid.2, hg, slots_eq hg, hs, h.sz, decide_eq_true (Int.le_refl _), decide_eq_true ⟨hl, hnd⟩, decide_eq_true hN0, decide_eq_true hN1]
  simp
  omega
def RW (i a : Nat) (f : Int → ByteArray) (l : List Int) (R : Rk) : Rk := ⟨wrTo i a f l R.M, false, R.acts + (l.length : Int), 0⟩
def RF (l : List Int) (R : Rk) : Rk := ⟨flTo l R.M, false, R.acts + (l.length : Int), 0⟩
def wordF (k m : Nat) (B N : Int) (data : List ByteArray) (x : Int) : ByteArray := (wordL data k m).getD (sIdx (k : Int) (m : Int) B N x) ⟨#[]⟩
theorem word_size (hg : gR (k : Int) (m : Int) B = true) (hn : n = k + m) (hd : dataB (k : Int) data = true) (hal : allowB n R id (k : Int) (m : Int) B l N = true) {x : Int} (hx : x ∈ l) : (wordF k m B N data x).size = 120 := by
  obtain ⟨_, _, hr⟩ := enc_shards hg hd
  obtain ⟨j, hj, hlt⟩ := index_nat hal hx
  unfold wordF sIdx
  rw [hj, Int.toNat_natCast]
  exact hr.s j (by omega)
theorem stW_hale (h : Hale n sec R) (hn : n = k + m) (hal : allowB n R (i : Int) (k : Int) (m : Int) B l N = true) (hd : dataB (k : Int) data = true) (hga : gSector (k : Int) (m : Int) B N = (a : Int)) : stW n R (i : Int) (k : Int) (m : Int) B l N data = (RW i a (wordF k m B N data) l R, [], 0) := by
  obtain ⟨hg, _, _, hid, ⟨hin, hnd⟩, hN0, hN1⟩ := allow_facts hal
  obtain ⟨e1, e2, hr⟩ := enc_shards hg hd
  obtain ⟨a', ha', hle, hlt⟩ := sector_nat hal
  have haa : a' = a := by omega
  subst haa
  rw [h.sz] at hlt
  have hsec : sec ≤ 256 → a' ≤ 255 := fun h => by omega
  have ha255 : a' ≤ 255 := by
    have := sector_eq hg hN0 hN1
    rw [hga] at this
    rw [stripes_eq hg] at hN1
    obtain ⟨k1, _, b1, b2⟩ := k_cases hg
    rcases k1 with e | e | e | e <;> rw [e] at this hN1 <;> omega
  unfold stW
  rw [if_pos hal, if_pos e1, e2]
  have hw := ea_write (n := n) (K := (k : Int)) (M := (m : Int)) (B := B) (N := N) (sh := wordL data k m) (by omega : 1 ≤ i) (by omega) ha255 hga l R [] (h.well hin) hnd (fun x hx => by rw [h.l x.toNat (by have := hin x hx; omega)]; exact hlt) (fun x hx => Nat.le_of_eq (word_size hg hn hd hal hx))
  rw [hw]; rfl
theorem stF_hale (h : Hale n sec R) (hl : ∀ x ∈ l, 0 ≤ x ∧ x < (n : Int)) (hnd : l.Nodup) : stF n R l = (RF l R, [], 0) := by
  unfold stF
  rw [if_pos (by unfold srightB; exact decide_eq_true ⟨hl, hnd⟩), ea_flush l R [] (h.well hl) hnd]
  rfl
theorem wrM_eq {Mm : Mst} {s : ByteArray} (h1 : Mm.fd = false) (h2 : a < Mm.L.length) (h3 : s.size = 128) : wrM Mm (a : Int) s = ⟨Mm.fd, Mm.L, updZ Mm.V (a : Int) (Mm.V (a : Int) ++ [s])⟩ := by
  unfold wrM
  rw [if_pos ⟨h1, by unfold hasN; simp; omega, h3⟩]
theorem hale_RW (h : Hale n sec R) (f : Int → ByteArray) : Hale n sec (RW i a f l R) := by
  have e : ∀ j, (wrTo i a f l R.M j).fd = (R.M j).fd ∧ (wrTo i a f l R.M j).L = (R.M j).L := fun j => by
    unfold wrTo
    split
    · unfold wrM
      split <;> exact ⟨rfl, rfl⟩
    · exact ⟨rfl, rfl⟩
  exact ⟨rfl, rfl, h.n1, h.n7, fun j hj => (e j).1.trans (h.al j hj), fun j hj => by show (wrTo i a f l R.M j).L.length = sec; rw [(e j).2]; exact h.l j hj⟩
theorem flush_len (L : List ByteArray) (V : Int → List ByteArray) : (flush L V).length = L.length := flL_len _ _ _
theorem flush_get (L : List ByteArray) (V : Int → List ByteArray) (h : a < L.length) : (flush L V).getD a zero128 = lastOf (V (a : Int)) (L.getD a zero128) := by
  unfold flush flL
  rw [List.getD_eq_getElem?_getD, List.getElem?_map, List.getElem?_range h]
  rfl
theorem flM_eq {Mm : Mst} (h1 : Mm.fd = false) : flM Mm = ⟨false, flush Mm.L Mm.V, noV⟩ := by
  unfold flM
  rw [if_neg (by rw [h1]; decide)]
theorem hale_RF (h : Hale n sec R) : Hale n sec (RF l R) := by
  refine ⟨rfl, rfl, h.n1, h.n7, fun j hj => ?_, fun j hj => ?_⟩
  · show (flTo l R.M j).fd = false
    unfold flTo
    split
    · rw [flM_eq (h.al j hj)]
    · exact h.al j hj
  · show (flTo l R.M j).L.length = sec
    unfold flTo
    split
    · rw [flM_eq (h.al j hj)]; exact (flush_len _ _).trans (h.l j hj)
    · exact h.l j hj
def topS (R : Rk) (j a : Nat) : ByteArray := lastOf ((R.M j).V (a : Int)) ((R.M j).L.getD a zero128)
theorem top_holds (h : Hale n sec R) {j : Nat} (hj : j < n) (ha : a < sec) : Holds n R (j : Int) (a : Int) (topS R j a) :=
  holds_of h.off ⟨by omega, by omega⟩ (by rw [Int.toNat_natCast]; exact h.al j hj) (by rw [Int.toNat_natCast, h.l j hj]; exact ha) (by rw [Int.toNat_natCast]; rfl)
theorem top_RW (h : Hale n sec R) (f : Int → ByteArray) {j c : Nat} (hj : j < n) (ha : a < sec) (hm : (j : Int) ∈ l → Made i j a (f (j : Int))) : topS (RW i a f l R) j c = if (j : Int) ∈ l ∧ c = a then secS i j a (f (j : Int)) else topS R j c := by
  unfold topS
  show lastOf ((wrTo i a f l R.M j).V (c : Int)) ((wrTo i a f l R.M j).L.getD c zero128) = _
  unfold wrTo
  by_cases hl : (j : Int) ∈ l
  · rw [if_pos hl, wrM_eq (h.al j hj) (by rw [h.l j hj]; exact ha) (hm hl).sz]
    by_cases hc : c = a
    · subst hc
      rw [if_pos ⟨hl, rfl⟩]
      show lastOf (updZ (R.M j).V (c : Int) _ (c : Int)) _ = _
      unfold updZ
      rw [if_pos rfl]
      unfold lastOf
      simp [List.getLastD_eq_getLast?]
    · rw [if_neg fun z => hc z.2]
      show lastOf (updZ (R.M j).V (a : Int) _ (c : Int)) _ = _
      unfold updZ
      rw [if_neg (by omega)]
  · rw [if_neg hl, if_neg fun z => hl z.1]
theorem top_RF (h : Hale n sec R) {j c : Nat} (hj : j < n) (hc : c < sec) : topS (RF l R) j c = topS R j c := by
  unfold topS
  show lastOf ((flTo l R.M j).V (c : Int)) ((flTo l R.M j).L.getD c zero128) = _
  unfold flTo
  by_cases hl : (j : Int) ∈ l
  · rw [if_pos hl, flM_eq (h.al j hj)]
    show lastOf (noV (c : Int)) ((flush (R.M j).L (R.M j).V).getD c zero128) = _
    rw [flush_get _ _ (by rw [h.l j hj]; exact hc)]
    rfl
  · rw [if_neg hl]
end
end Go.Proofs.YtjgafpkpoppcbaaGreatDoor
end
section
namespace Go.Proofs.YtjgafpkpoppcbaaGreatDoor
open Go.RowKit
set_option maxRecDepth 100000
section
variable {n sec k m a i : Nat} {R : Rk} {B N id : Int} {l : List Int} {data : List ByteArray}
theorem stR_by (hal : allowB n R id (k : Int) (m : Int) B l N = true) (hoff : R.off = false) (hd : dataB (k : Int) data = true) (good : Int → Bool)
    (h1 : ∀ x ∈ l, good x = true → srB n R id x (gSector (k : Int) (m : Int) B N) = true ∧ srS n R id x (gSector (k : Int) (m : Int) B N) = wordF k m B N data x) (h2 : ∀ x ∈ l, good x = false → srB n R id x (gSector (k : Int) (m : Int) B N) = false) :
    stR n R id (k : Int) (m : Int) B l N = if k ≤ (l.filter good).length then (data, l.filter (fun x => !good x), 0) else ([], l.filter (fun x => !good x), 130) := by
  have hb : ∀ x ∈ l, srB n R id x (gSector (k : Int) (m : Int) B N) = good x := fun x hx => by
    cases e : good x with
    | true => exact (h1 x hx e).1
    | false => exact h2 x hx e
  rw [stR_good hal hoff hd fun x hx e => (h1 x hx (by rw [← hb x hx]; exact e)).2]
  have e1 : l.filter (fun x => srB n R id x (gSector (k : Int) (m : Int) B N)) = l.filter good := List.filter_congr fun x hx => by rw [hb x hx]
  have e2 : l.filter (fun x => !srB n R id x (gSector (k : Int) (m : Int) B N)) = l.filter (fun x => !good x) := List.filter_congr fun x hx => by rw [hb x hx]
  rw [e1, e2]
theorem upR_eq {j : Nat} (hj : j < n) (f : Mst → Mst) : upR n R (j : Int) f = { R with M := upd R.M j (f (R.M j)) } := by
  unfold upR
  rw [if_pos (hasK_nat hj), Int.toNat_natCast]
theorem roM_same (Mm : Mst) (x b c : Int) : (roM Mm x b c).fd = Mm.fd ∧ (roM Mm x b c).L.length = Mm.L.length := by
  unfold roM
  split
  · next h =>
    obtain ⟨h1, _⟩ := rotB_nat h
    exact ⟨h1.symm, by simp⟩
  · exact ⟨rfl, rfl⟩
theorem hale_rot (h : Hale n sec R) {j : Nat} (hj : j < n) (x b c : Int) : Hale n sec (upR n R (j : Int) fun M => roM M x b c) := by
  rw [upR_eq hj]
  refine ⟨h.off, h.ar, h.n1, h.n7, fun t ht => ?_, fun t ht => ?_⟩
  · show (upd R.M j _ t).fd = false
    by_cases e : t = j
    · subst e; rw [upd_same, (roM_same _ _ _ _).1]; exact h.al t ht
    · rw [upd_other _ _ _ _ e]; exact h.al t ht
  · show (upd R.M j _ t).L.length = sec
    by_cases e : t = j
    · subst e; rw [upd_same, (roM_same _ _ _ _).2]; exact h.l t ht
    · rw [upd_other _ _ _ _ e]; exact h.l t ht
theorem top_rot (h : Hale n sec R) {j b c : Nat} (hj : j < n) (ha : a < sec) (hV : (R.M j).V (a : Int) = []) (hb : b < 128) (hc0 : 1 ≤ c) (hc : c ≤ 255) (t e : Nat) : topS (upR n R (j : Int) fun M => roM M (a : Int) (b : Int) (c : Int)) t e = if t = j ∧ e = a then rotS (topS R j a) b c else topS R t e := by
  rw [upR_eq hj]
  unfold topS
  show lastOf ((upd R.M j (roM (R.M j) (a : Int) (b : Int) (c : Int)) t).V (e : Int)) ((upd R.M j (roM (R.M j) (a : Int) (b : Int) (c : Int)) t).L.getD e zero128) = _
  have hr : rotB (R.M j).fd (R.M j).L (R.M j).V (a : Int) (b : Int) (c : Int) = true := by
    unfold rotB
    rw [h.al j hj, hV]
    have hh : hasN (R.M j).L (a : Int) = true := by unfold hasN; rw [h.l j hj]; simp; omega
    rw [hh, decide_eq_false (show ¬ (b : Int) < 0 by omega), decide_eq_false (show ¬ (128 : Int) ≤ (b : Int) by omega), decide_eq_false (show ¬ (c : Int) < 1 by omega), decide_eq_false (show ¬ (255 : Int) < (c : Int) by omega)]
    rfl
  by_cases e1 : t = j
  · subst e1
    rw [upd_same]
    unfold roM
    rw [if_pos hr, Int.toNat_natCast, Int.toNat_natCast, Int.toNat_natCast]
    show lastOf ((R.M t).V (e : Int)) (((R.M t).L.set a (rotS ((R.M t).L.getD a zero128) b c)).getD e zero128) = _
    by_cases e2 : e = a
    · subst e2
      rw [if_pos ⟨rfl, rfl⟩, hV, lastOf_nil, lastOf_nil, List.getD_eq_getElem?_getD, List.getElem?_set_self (by rw [h.l t hj]; exact ha), Option.getD_some]
    · rw [if_neg fun z => e2 z.2, List.getD_eq_getElem?_getD, List.getElem?_set_ne (fun z => e2 z.symm), ← List.getD_eq_getElem?_getD]
  · rw [if_neg fun z => e1 z.1, upd_other _ _ _ _ e1]
theorem rf_empty (h : Hale n sec R) {j : Nat} (hj : j < n) (hl : (j : Int) ∈ l) (x : Int) : ((RF l R).M j).V x = [] := by
  show (flTo l R.M j).V x = []
  unfold flTo
  rw [if_pos hl, flM_eq (h.al j hj)]
  rfl
end
def awD : List ByteArray := dataL13 2 [5, 6]
def awR1 : Rk := RW 3 69 (wordF 2 1 8 1 awD) (allL 3) (R00 72)
def awR2 : Rk := RF (allL 3) awR1
def awR3 : Rk := upR 3 awR2 ((0 : Nat) : Int) fun M => roM M ((69 : Nat) : Int) ((5 : Nat) : Int) ((1 : Nat) : Int)
theorem aw_g : gR ((2 : Nat) : Int) ((1 : Nat) : Int) 8 = true ∧ gSectors ((2 : Nat) : Int) ((1 : Nat) : Int) 8 = ((72 : Nat) : Int) ∧ gSector ((2 : Nat) : Int) ((1 : Nat) : Int) 8 1 = ((69 : Nat) : Int) ∧ gStripes ((2 : Nat) : Int) ((1 : Nat) : Int) 8 = 4 := by decide
theorem aw_model : stW 3 (R00 72) ((3 : Nat) : Int) ((2 : Nat) : Int) ((1 : Nat) : Int) 8 (allL 3) 1 awD = (awR1, [], 0) ∧ stF 3 awR1 (allL 3) = (awR2, [], 0) ∧ stR 3 awR3 ((3 : Nat) : Int) ((2 : Nat) : Int) ((1 : Nat) : Int) 8 (allL 3) 1 = (awD, [0], 0) ∧ stR 3 awR3 ((3 : Nat) : Int) ((2 : Nat) : Int) ((1 : Nat) : Int) 8 [0, 1] 1 = ([], [0], 130) ∧ awR3.acts = 6 := by
  obtain ⟨g1, g2, g3, g4⟩ := aw_g
  have h0 : Hale 3 72 (R00 72) := hale_00 (by decide) (by decide)
  have hd : dataB ((2 : Nat) : Int) awD = true := dataL13_right 2 [5, 6]
  have hall : ∀ x ∈ allL 3, 0 ≤ x ∧ x < ((3 : Nat) : Int) := fun x hx => allL_mem.1 hx
  have al0 := allow_all (N := 1) (l := allL 3) (id := ((3 : Nat) : Int)) h0 g1 rfl g2 (by decide) (by decide) (by rw [g4]; decide) hall allL_nodup
  have h1 : Hale 3 72 awR1 := hale_RW h0 _
  have h2 : Hale 3 72 awR2 := hale_RF h1
  have h3 : Hale 3 72 awR3 := hale_rot h2 (by decide) _ _ _
  have top2 : ∀ j, j < 3 → topS awR2 j 69 = secS 3 j 69 (wordF 2 1 8 1 awD (j : Int)) := fun j hj => by
    have hm : (j : Int) ∈ allL 3 := allL_mem.2 (by omega)
    show topS (RF (allL 3) awR1) j 69 = _
    rw [top_RF h1 hj (by decide)]
    show topS (RW 3 69 (wordF 2 1 8 1 awD) (allL 3) (R00 72)) j 69 = _
    rw [top_RW h0 _ hj (by decide) (fun _ => ⟨by decide, by decide, by omega, by decide, Nat.le_of_eq (word_size g1 rfl hd al0 hm)⟩), if_pos ⟨hm, rfl⟩]
  have made : ∀ j, j < 3 → Made 3 j 69 (wordF 2 1 8 1 awD (j : Int)) := fun j hj => ⟨by decide, by decide, by omega, by decide, Nat.le_of_eq (word_size g1 rfl hd al0 (allL_mem.2 (by omega)))⟩
  have top3 : ∀ j, j < 3 → topS awR3 j 69 = if j = 0 then rotS (secS 3 0 69 (wordF 2 1 8 1 awD ((0 : Nat) : Int))) 5 1 else secS 3 j 69 (wordF 2 1 8 1 awD (j : Int)) := fun j hj => by
    show topS (upR 3 awR2 ((0 : Nat) : Int) fun M => roM M ((69 : Nat) : Int) ((5 : Nat) : Int) ((1 : Nat) : Int)) j 69 = _
    rw [top_rot h2 (by decide) (by decide) (rf_empty h1 (by decide) (allL_mem.2 (by decide)) _) (by decide) (by decide) (by decide)]
    by_cases e : j = 0
    · rw [if_pos ⟨e, rfl⟩, if_pos e, top2 0 (by decide)]
    · rw [if_neg fun z => e z.1, if_neg e, top2 j hj]
  have good1 : ∀ x : Int, 0 ≤ x ∧ x < 3 → decide (x ≠ 0) = true → srB 3 awR3 ((3 : Nat) : Int) x (gSector ((2 : Nat) : Int) ((1 : Nat) : Int) 8 1) = true ∧ srS 3 awR3 ((3 : Nat) : Int) x (gSector ((2 : Nat) : Int) ((1 : Nat) : Int) 8 1) = wordF 2 1 8 1 awD x := fun x hx e => by
    obtain ⟨j, rfl⟩ := Int.eq_ofNat_of_zero_le hx.1
    have e := of_decide_eq_true e
    have hj : j < 3 := by omega
    have ht := top3 j hj
    rw [if_neg (by omega)] at ht
    have hh := top_holds h3 hj (show 69 < 72 by decide)
    rw [ht] at hh
    rw [g3]
    have := sr_sealed (n := 3) (R := awR3) (x := (j : Int)) (by omega) (i := 3) (a := 69) (p := wordF 2 1 8 1 awD (j : Int)) (by rw [Int.toNat_natCast]; exact made j hj) (word_size g1 rfl hd al0 (allL_mem.2 (by omega))) (by rw [Int.toNat_natCast]; exact hh)
    exact this
  have good2 : ∀ x : Int, 0 ≤ x ∧ x < 3 → decide (x ≠ 0) = false → srB 3 awR3 ((3 : Nat) : Int) x (gSector ((2 : Nat) : Int) ((1 : Nat) : Int) 8 1) = false := fun x hx e => by
    have e := of_decide_eq_false e
    obtain rfl : x = ((0 : Nat) : Int) := by omega
    have ht := top3 0 (by decide)
    rw [if_pos rfl] at ht
    have hh := top_holds h3 (show 0 < 3 by decide) (show 69 < 72 by decide)
    rw [ht] at hh
    rw [g3]
    exact sr_shut hh (rot_shut (made 0 (by decide)) (by decide) (by decide) (by decide))
  have al3 := allow_all (N := 1) (l := allL 3) (id := ((3 : Nat) : Int)) h3 g1 rfl g2 (by decide) (by decide) (by rw [g4]; decide) hall allL_nodup
  have al4 := allow_all (N := 1) (l := [0, 1]) (id := ((3 : Nat) : Int)) h3 g1 rfl g2 (by decide) (by decide) (by rw [g4]; decide) (by decide) (by decide)
  refine ⟨stW_hale h0 rfl al0 hd g3, stF_hale h1 hall allL_nodup, ?_, ?_, ?_⟩
  · rw [stR_by al3 h3.off hd (fun x => decide (x ≠ 0)) (fun x hx => good1 x (hall x hx)) (fun x hx => good2 x (hall x hx))]
    rw [if_pos (by decide)]
    rfl
  · rw [stR_by al4 h3.off hd (fun x => decide (x ≠ 0)) (fun x hx => good1 x (by
      rcases List.mem_cons.1 hx with e | e
      · omega
      · rw [List.mem_singleton] at e; omega)) (fun x hx => good2 x (by
      rcases List.mem_cons.1 hx with e | e
      · omega
      · rw [List.mem_singleton] at e; omega))]
    rw [if_neg (by decide)]
    rfl
  · unfold awR3
    rw [upR_eq (by decide)]
    rfl
end Go.Proofs.YtjgafpkpoppcbaaGreatDoor
end
