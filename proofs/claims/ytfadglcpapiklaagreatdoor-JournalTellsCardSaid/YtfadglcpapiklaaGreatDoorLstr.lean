/- Lstr: what this claim reaches of Tx12, StrBase, StrOwn and others. -/
import Derived.Test.YtfadglcpapiklaaGreatDoorLbase
import Derived.Test.YtfadglcpapiklaaGreatDoorLrack
import Derived.Test.YtfadglcpapiklaaGreatDoorLsec
import Derived.Test.YtfadglcpapiklaaGreatDoorLgeo
import Derived.Laws.Rows
section
namespace Go.Proofs.YtfadglcpapiklaaGreatDoor
open Go.RowKit
set_option linter.unusedVariables false
set_option linter.unusedSimpArgs false

theorem Tryz.infoS : (Tryz.prog.info? 9).map (fun i => (i.zero, i.size, i.bytes)) = some (some (.string ⟨#[]⟩), 1, 16) := by kernel_rfl
/-- Texts as values. -/
abbrev tx (l : List ByteArray) : List Value := l.map Value.string
theorem Tryz.infoI : (Tryz.prog.info? 3).map (fun i => (i.zero, i.size, i.bytes)) = some (some (.int .i64 0), 1, 8) := by kernel_rfl
def capOk : Value → Prop
  | .slice _ l c => l ≤ c
  | _ => True
/-- The first m of a slice. -/
theorem Reads.to_run {P : Program} {T E : TypeId} {i : TypeInfo} (hT : P.underlying T = some (.slice E)) (hi : P.info? E = some i) (hs : i.size = 1) {w : World} {v : Value} {xs : List Value} (h : Reads w v xs) (hc : capOk v) {m : Nat} (hm : m ≤ xs.length) :
    ∃ v2, (∀ W, (Instr.slice T v none (some (.int .i64 (m : Int))) none).run P W = .ok v2 W) ∧ Reads w v2 (xs.take m) := by
  rcases h with ⟨⟨a0, c0, rfl⟩, rfl⟩ | ⟨b, off, cap, rfl, hb, hx⟩
  · have : m = 0 := by simpa using hm
    subst this
    refine ⟨.slice a0 0 c0, fun W => ?_, .inl ⟨⟨_, _, rfl⟩, rfl⟩⟩
    have hz : (sizeOf E).run P W = .ok 1 W := by simp [sizeOf, typeInfo, hi, hs]
    cases a0 with
    | none => simp [Instr.slice, run_underlying hT, Instr.sliceBounds, Instr.sliceBound, asIntOf, hz]
    | some a =>
      simp [Instr.slice, run_underlying hT, Instr.sliceBounds, Instr.sliceBound, asIntOf, hz]
      intro _
      cases a
      unfold Addr.add
      simp
  · have hc' : xs.length ≤ cap := hc
    refine ⟨.slice (some ⟨b, off, none⟩) m cap, fun W => ?_, .inr ⟨b, off, cap, by simp [Nat.min_eq_left hm], hb, fun j hj => ?_⟩⟩
    · have e1 : ((m : Int) ≤ (cap : Int)) := by omega
      have e2 : m ≤ cap := by omega
      simp [Instr.slice, run_underlying hT, Instr.sliceBounds, Instr.sliceBound, asIntOf, sizeOf, typeInfo, hi, hs, e2, Addr.add]
    · rw [List.length_take, Nat.min_eq_left hm] at hj
      rw [hx j (by omega), List.getD_eq_getElem?_getD, List.getD_eq_getElem?_getD, List.getElem?_take, if_pos hj]
end Go.Proofs.YtfadglcpapiklaaGreatDoor
end
section
namespace Go.Proofs.YtfadglcpapiklaaGreatDoor
open Go.RowKit
set_option linter.unusedVariables false
set_option linter.unusedSimpArgs false
set_option maxRecDepth 100000

/-- How many sectors members have. -/
def szK (R : Rk) : Nat := (R.M 0).L.length
section
variable {w w1 : World} {S : Nat → Prop} {k n : Nat} {R : Rk}
theorem rt_slots (h : RA w S w1 k n R) : Calls Tryz.prog 43 #[.pointer (some ⟨k, 0, none⟩)] w1 fun e w' => e = .returned (.int .i64 (n : Int)) ∧ w1 = w' := by
  obtain ⟨Λ, hB⟩ := h.h
  exact slotsk_any hB
theorem rt_acts (h : RA w S w1 k n R) : Calls Tryz.prog 22 #[.pointer (some ⟨k, 0, none⟩)] w1 fun e w' => e = .returned (.int .i64 R.acts) ∧ w1 = w' := by
  obtain ⟨Λ, hB⟩ := h.h
  exact actsk_any hB
theorem rt_off (h : RA w S w1 k n R) : Calls Tryz.prog 57 #[.pointer (some ⟨k, 0, none⟩)] w1 fun e w' => e = .returned (.bool R.off) ∧ w1 = w' := by
  obtain ⟨Λ, hB⟩ := h.h
  exact offk_any hB
theorem rt_sectors (h : RA w S w1 k n R) : Calls Tryz.prog 79 #[.pointer (some ⟨k, 0, none⟩)] w1 fun e w' => e = .returned (.int .i64 (szK R : Int)) ∧ w1 = w' := by
  obtain ⟨Λ, hB⟩ := h.h
  have hn := hB.n1
  have h0 : (0 : Int) < (n : Int) := by omega
  have c0 := hB.c0
  have cs := hB.slot (i := 0) (by omega)
  have cm := ma_size (RBox.ma (RA.b h) (RA.from h) hB (i := 0) (by omega))
  have he : Hid ((R.M 0).L.length = szK R) := Lib.hid rfl
  generalize (R.M 0).L.length = z at *
  clear h hB
  go_enter Tryz.func79, Tryz.ntmps79
  go_wp2_with (fail)
  refine cm.mono ?_
  rintro e w' ⟨rfl, rfl⟩
  go_wp2_with (fail)
  go_ret
  exact ⟨by rw [he.out]; rfl, rfl⟩
theorem rd_size (h : RA w S w1 k n R) (s at_ : Int) : (rdRS n R s at_).size ≤ 128 := by
  obtain ⟨Λ, hB⟩ := h.h
  unfold rdRS
  by_cases e0 : rhE n R s = 0
  · obtain ⟨i, rfl, hi, ho⟩ := rhE_ok e0
    rw [if_pos e0, Int.toNat_natCast]
    have hp := hB.p i hi
    unfold rdS
    by_cases e1 : (R.M i).fd = true
    · rw [if_pos e1]; decide
    · rw [if_neg e1]
      by_cases e2 : hasN (R.M i).L at_ = true
      · obtain ⟨j, rfl, hj⟩ := hasN_nat e2
        rw [if_pos e2, Int.toNat_natCast]
        unfold lastOf
        rw [List.getLastD_eq_getLast?]
        cases e3 : ((R.M i).V (j : Int)).getLast? with
        | none => rw [Option.getD_none, List.getD_eq_getElem?_getD, List.getElem?_eq_getElem hj, Option.getD_some, hp.zl _ (List.getElem_mem hj)]; exact Nat.le_refl _
        | some x => rw [Option.getD_some, hp.zv _ x (List.mem_of_getLast? e3)]; exact Nat.le_refl _
      · rw [if_neg e2]; decide
  · rw [if_neg e0]; decide
end
/-- The payload of a sector of a slot, and whether there is one. -/
def srS (n : Nat) (R : Rk) (id slot at_ : Int) : ByteArray := if rdRE n R slot at_ = 0 then openS id slot at_ (rdRS n R slot at_) else ⟨#[]⟩
def srB (n : Nat) (R : Rk) (id slot at_ : Int) : Bool := decide (rdRE n R slot at_ = 0) && openOk id slot at_ (rdRS n R slot at_)
/-- Payloads sealed and written to consecutive sectors. -/
def wsM (n : Nat) (id slot : Int) : Rk → Nat → List ByteArray → Rk × Int
  | R, _, [] => (R, 0)
  | R, a, p :: ps => if sealE id slot (a : Int) p = 0 then (if wrRE n R slot (a : Int) (sealL id slot (a : Int) p) = 0 then wsM n id slot (wrR n R slot (a : Int) (sealL id slot (a : Int) p)) (a + 1) ps else (wrR n R slot (a : Int) (sealL id slot (a : Int) p), wrRE n R slot (a : Int) (sealL id slot (a : Int) p))) else (R, sealE id slot (a : Int) p)
theorem wsM_ok {n : Nat} {id slot : Int} {b : Nat} : ∀ (ps : List ByteArray) (R : Rk) (a c : Nat), ROk n R c → c + ps.length ≤ b → ROk n (wsM n id slot R a ps).1 b
  | [], R, a, c, h, hc => h.le (by simpa using hc)
  | p :: ps, R, a, c, h, hc => by
    have h1 := h.wr slot (a : Int) (sealL id slot (a : Int) p)
    rw [List.length_cons] at hc
    unfold wsM
    by_cases e0 : sealE id slot (a : Int) p = 0
    · rw [if_pos e0]
      by_cases e1 : wrRE n R slot (a : Int) (sealL id slot (a : Int) p) = 0
      · rw [if_pos e1]; exact wsM_ok ps _ _ (c + 1) h1 (by omega)
      · rw [if_neg e1]; exact h1.le (by omega)
    · rw [if_neg e0]; exact h.le (by omega)
theorem wsM_drop {n : Nat} {id slot : Int} (R : Rk) (a : Nat) {ps : List ByteArray} {i : Nat} (hi : i < ps.length) : wsM n id slot R (a + i) (ps.drop i) = if sealE id slot ((a + i : Nat) : Int) ps[i] = 0 then (if wrRE n R slot ((a + i : Nat) : Int) (sealL id slot ((a + i : Nat) : Int) ps[i]) = 0 then wsM n id slot (wrR n R slot ((a + i : Nat) : Int) (sealL id slot ((a + i : Nat) : Int) ps[i])) (a + i + 1) (ps.drop (i + 1)) else (wrR n R slot ((a + i : Nat) : Int) (sealL id slot ((a + i : Nat) : Int) ps[i]), wrRE n R slot ((a + i : Nat) : Int) (sealL id slot ((a + i : Nat) : Int) ps[i]))) else (R, sealE id slot ((a + i : Nat) : Int) ps[i]) := by
  rw [List.drop_eq_getElem_cons hi]; rfl
section
variable {w w1 : World} {S : Nat → Prop} {k n : Nat} {R : Rk}
theorem sr_any (h : RA w S w1 k n R) (hk : ROk n R 1000000000000) (id slot at_ : Int) :
    Calls Tryz.prog 94 #[.pointer (some ⟨k, 0, none⟩), .int .i64 id, .int .i64 slot, .int .i64 at_] w1 (TellsB w1 (srS n R id slot at_) (srB n R id slot at_)) := by
  have cr := rt_read h slot at_ hk
  have hs := rd_size h slot at_
  have h1 : Hid (srS n R id slot at_ = if rdRE n R slot at_ = 0 then openS id slot at_ (rdRS n R slot at_) else ⟨#[]⟩) := Lib.hid rfl
  have h2 : Hid (srB n R id slot at_ = (decide (rdRE n R slot at_ = 0) && openOk id slot at_ (rdRS n R slot at_))) := Lib.hid rfl
  generalize srS n R id slot at_ = x1 at *
  generalize srB n R id slot at_ = x2 at *
  generalize rdRS n R slot at_ = s at *
  generalize rdRE n R slot at_ = er at *
  clear h hk
  by_cases e0 : er = 0
  · subst e0
    have co := fun W => open_any id slot at_ s W (by omega)
    have h1' : Hid (x1 = openS id slot at_ s) := Lib.hid (by rw [h1.out, if_pos rfl])
    have h2' : Hid (x2 = openOk id slot at_ s) := Lib.hid (by rw [h2.out]; rfl)
    clear h1 h2
    generalize openS id slot at_ s = y1 at *
    generalize openOk id slot at_ s = y2 at *
    go_enter Tryz.func94, Tryz.ntmps94
    go_wp2_with (fail)
    refine cr.mono ?_
    rintro e w2 ⟨rfl, b2⟩
    have co2 := co w2
    clear co cr
    go_wp2_with (fail)
    refine co2.mono ?_
    rintro e w3 ⟨rfl, b3⟩
    go_wp2_with (fail)
    go_ret2
    exact ⟨by rw [h1'.out, h2'.out]; rfl, b2.trans (b3.mono b2.size)⟩
  · have eb : (er != 0) = true := by rw [bne_iff_ne]; exact e0
    have ec : (er == 0) = false := by rw [beq_eq_false_iff_ne]; exact e0
    have h1' : Hid (x1 = ⟨#[]⟩) := Lib.hid (by rw [h1.out, if_neg e0])
    have h2' : Hid (x2 = false) := Lib.hid (by rw [h2.out, decide_eq_false e0]; rfl)
    clear h1 h2
    go_enter Tryz.func94, Tryz.ntmps94
    go_wp2_with (fail)
    refine cr.mono ?_
    rintro e w2 ⟨rfl, b2⟩
    go_wp2_with (fail)
    go_ret2
    exact ⟨by rw [h1'.out, h2'.out]; rfl, b2⟩
end
section
variable {w w1 wr w' : World} {S : Nat → Prop} {k n : Nat} {R : Rk}
/-- What stands of a rack behind some of a call's steps. -/
def RNow (w : World) (S : Nat → Prop) (w1 : World) (k n : Nat) (R : Rk) (wr : World) : Prop := ∃ S', Stp S S' w1 wr ∧ RA w S' wr k n R
theorem RNow.after (h : RNow w S w1 k n R wr) (hb : Below wr.heap.size wr w') : RNow w S w1 k n R w' := by
  obtain ⟨S', s1, h1⟩ := h
  exact ⟨S', s1.trans (Stp.quiet hb), h1.after hb⟩
theorem RNow.keep (h : RNow w S w1 k n R wr) {q : Nat} (hq : q < w1.heap.size) (hS : ¬ S q) : wr.heap[q]? = w1.heap[q]? := by
  obtain ⟨S', s1, h1⟩ := h
  exact s1.oth q hq hS
theorem RNow.size (h : RNow w S w1 k n R wr) : w1.heap.size ≤ wr.heap.size := by
  obtain ⟨S', s1, h1⟩ := h
  exact s1.b0.size
theorem RNow.start (h : RA w S w1 k n R) : RNow w S w1 k n R w1 := ⟨S, Stp.refl _ _, h⟩
theorem RNow.calls (h : RNow w S w1 k n R wr) {f : Nat} {args : Array Value} {R' : Rk} {u : Value} (c : ∀ S', RA w S' wr k n R → Calls Tryz.prog f args wr (RDoes w S' wr k n R' u)) : Calls Tryz.prog f args wr fun e w' => e = .returned u ∧ RNow w S w1 k n R' w' := by
  obtain ⟨S', s1, h1⟩ := h
  refine (c S' h1).mono ?_
  rintro e w' ⟨e1, S2, s2, h2⟩
  exact ⟨e1, S2, s1.trans s2, h2⟩
set_option maxHeartbeats 1000000 in
theorem sw_any (h : RA w S w1 k n R) (b : Nat) (hk : ROk n R b) (id slot : Int) (a : Nat) (ha : a ≤ 100000) (v : Value) (ps : List ByteArray) (hb : b + ps.length ≤ 1000000000000) (hv : Reads w1 v (tx ps)) (hvS : ∀ q, v.ownBlock = some q → ¬ S q) (hf : ∀ p ∈ ps, p.size ≤ 140737488351232) (hl : ps.length ≤ 100000) :
    Calls Tryz.prog 47 #[.pointer (some ⟨k, 0, none⟩), .int .i64 id, .int .i64 slot, .int .i64 (a : Int), v] w1 (RDoes w S w1 k n (wsM n id slot R a ps).1 (.int .i64 (wsM n id slot R a ps).2)) := by
  obtain ⟨va, vc, rfl, hit⟩ := Reads.items hv
  have HIT : Hid (∀ i (hi : i < ps.length), ∃ cb co, va = some ⟨cb, co, none⟩ ∧ ∀ R' wr, RNow w S w1 k n R' wr → wr.cell? ⟨cb, co + i, none⟩ = some (.string ps[i])) := Lib.hid fun i hi => by
    obtain ⟨cb, co, e1, e2, e3⟩ := hit i hi
    exact ⟨cb, co, e1, fun R' wr hr => (cell_of_heap (hr.keep e2 (hvS cb (by rw [e1]; rfl))) (co + i)).trans e3⟩
  obtain ⟨X, hX⟩ : ∃ X, X = wsM n id slot R a ps := ⟨_, rfl⟩
  rw [← hX]
  have HX := Lib.hid hX
  have HF := Lib.hid hf
  have HN := Lib.hid (RNow.start h)
  have HK := Lib.hid hk
  clear hX hv hvS hit h hf hk
  go_enter Tryz.func47, Tryz.ntmps47
  go_wp2_with (fail)
  go_loopw [11, 12, 13, 14, 15, 18] (fun _ _ _ _ _ t wr => ∃ (i : Nat) (R' : Rk), i ≤ ps.length ∧ t = .int .i64 (i : Int) ∧ X = wsM n id slot R' (a + i) (ps.drop i) ∧ ROk n R' (b + i) ∧ RNow w S w1 k n R' wr) (fun _ _ _ _ _ t _ => ps.length - (RowKit.intOf t).toNat)
  case atStart => exact ⟨0, R, Nat.zero_le _, rfl, HX.out, HK.out, HN.out⟩
  case round =>
    clear HX HN HK
    obtain ⟨i, R', hi, rfl, hX, hk, hn⟩ := hrel
    rename World => wr
    by_cases hlt : i < ps.length
    · have y1 : (i : Int) < (ps.length : Int) := by omega
      obtain ⟨cb, co, rfl, hcell⟩ := HIT.out i hlt
      have hc1 := hcell _ _ hn
      rw [wsM_drop R' a hlt] at hX
      have hps := HF.out ps[i] (List.getElem_mem hlt)
      obtain ⟨p, hp⟩ : ∃ p, ps[i] = p := ⟨_, rfl⟩
      rw [hp] at hX hc1 hps
      have cs := seal_any id slot ((a + i : Nat) : Int) p wr hps
      have hsz := sealL_size id slot ((a + i : Nat) : Int) p
      have hHX := Lib.hid hX
      have Hk := Lib.hid hk
      have Hn := Lib.hid hn
      clear hX hp hcell hps hk hn
      rw [Int.natCast_add] at cs
      by_cases h0 : sealE id slot ((a + i : Nat) : Int) p = 0
      · have hX1 : Hid (X = if wrRE n R' slot ((a + i : Nat) : Int) (sealL id slot ((a + i : Nat) : Int) p) = 0 then wsM n id slot (wrR n R' slot ((a + i : Nat) : Int) (sealL id slot ((a + i : Nat) : Int) p)) (a + i + 1) (ps.drop (i + 1)) else (wrR n R' slot ((a + i : Nat) : Int) (sealL id slot ((a + i : Nat) : Int) p), wrRE n R' slot ((a + i : Nat) : Int) (sealL id slot ((a + i : Nat) : Int) p))) := Lib.hid (by rw [hHX.out, if_pos h0])
        have hk2 := Lib.hid (Hk.out.wr slot ((a + i : Nat) : Int) (sealL id slot ((a + i : Nat) : Int) p))
        have cw : ∀ W, RNow w S w1 k n R' W → Calls Tryz.prog 28 #[.pointer (some ⟨k, 0, none⟩), .int .i64 slot, .int .i64 ((a : Int) + (i : Int)), .string (sealL id slot ((a + i : Nat) : Int) p)] W fun e w' => e = .returned (.int .i64 (wrRE n R' slot ((a + i : Nat) : Int) (sealL id slot ((a + i : Nat) : Int) p))) ∧ RNow w S w1 k n (wrR n R' slot ((a + i : Nat) : Int) (sealL id slot ((a + i : Nat) : Int) p)) w' := fun W hW => hW.calls (fun S' hA => by
          have := rt_write hA slot ((a + i : Nat) : Int) (sealL id slot ((a + i : Nat) : Int) p) (Hk.out.le (by omega))
          rw [Int.natCast_add] at this
          rw [Int.natCast_add]
          exact this)
        rw [Int.natCast_add] at h0
        rw [h0] at cs
        clear hHX h0 Hk
        generalize wrR n R' slot ((a + i : Nat) : Int) (sealL id slot ((a + i : Nat) : Int) p) = R2 at *
        generalize wrRE n R' slot ((a + i : Nat) : Int) (sealL id slot ((a + i : Nat) : Int) p) = e2 at *
        rw [Int.natCast_add] at cw
        generalize sealL id slot ((a : Int) + (i : Int)) p = q at *
        go_wp2_with (fail)
        refine cs.mono ?_
        rintro e w3 ⟨rfl, b3⟩
        have cw3 := cw w3 (Hn.out.after b3)
        clear cw cs b3 hc1
        by_cases h1 : e2 = 0
        · subst h1
          have hX2 : Hid (X = wsM n id slot R2 (a + (i + 1)) (ps.drop (i + 1))) := Lib.hid (by rw [hX1.out, if_pos rfl, Nat.add_assoc])
          clear hX1
          go_wp2_with (fail)
          refine cw3.mono ?_
          rintro e w4 ⟨rfl, h4⟩
          have H4 := Lib.hid h4
          clear h4 cw3
          go_wp2_with (fail)
          go_roundw
          case rel => exact ⟨i + 1, R2, by omega, by go_num, hX2.out, by rw [← Nat.add_assoc]; exact hk2.out, H4.out⟩
          case measure => simp [RowKit.intOf]; omega
        · have hX2 : Hid (X = (R2, e2)) := Lib.hid (by rw [hX1.out, if_neg h1])
          have t1 : (e2 != 0) = true := by rw [bne_iff_ne]; exact h1
          have t2 : (e2 == 0) = false := by rw [beq_eq_false_iff_ne]; exact h1
          clear hX1
          go_wp2_with (fail)
          refine cw3.mono ?_
          rintro e w4 ⟨rfl, h4⟩
          have H4 := Lib.hid h4
          clear h4 cw3
          go_wp2_with (fail)
          go_ret
          exact ⟨by rw [hX2.out]; rfl, by rw [hX2.out]; exact H4.out⟩
      · have hX2 : Hid (X = (R', sealE id slot ((a + i : Nat) : Int) p)) := Lib.hid (by rw [hHX.out, if_neg h0])
        rw [Int.natCast_add] at h0
        clear hHX Hk
        rw [Int.natCast_add] at hX2
        generalize sealE id slot ((a : Int) + (i : Int)) p = e2 at *
        have t1 : (e2 != 0) = true := by rw [bne_iff_ne]; exact h0
        have t2 : (e2 == 0) = false := by rw [beq_eq_false_iff_ne]; exact h0
        generalize sealL id slot ((a : Int) + (i : Int)) p = q at *
        go_wp2_with (fail)
        refine cs.mono ?_
        rintro e w3 ⟨rfl, b3⟩
        have H4 := Lib.hid (Hn.out.after b3)
        clear cs b3 hc1
        go_wp2_with (fail)
        go_ret
        exact ⟨by rw [hX2.out]; rfl, by rw [hX2.out]; exact H4.out⟩
    · obtain rfl : i = ps.length := by omega
      have y1 : ¬ ((ps.length : Int) < (ps.length : Int)) := by omega
      rw [List.drop_length] at hX
      have hX2 : Hid (X = (R', 0)) := Lib.hid hX
      have H3 := Lib.hid hn
      clear hX hn hk
      go_wp2_with (fail)
      go_ret
      exact ⟨by rw [hX2.out]; rfl, by rw [hX2.out]; exact H3.out⟩
end
end Go.Proofs.YtfadglcpapiklaaGreatDoor
end
section
namespace Go.Proofs.YtfadglcpapiklaaGreatDoor
open Go.RowKit
set_option linter.unusedVariables false
set_option linter.unusedSimpArgs false
set_option maxRecDepth 100000

/-- What stands of a rack, and a list of the call's own that is none of the rack's blocks. -/
def ROwn (w : World) (S : Nat → Prop) (w1 : World) (k n : Nat) (R : Rk) (E : TypeId) (v : Value) (xs : List Value) (wr : World) : Prop :=
  ∃ S', Stp S S' w1 wr ∧ RA w S' wr k n R ∧ Own wr w1.heap.size E v xs ∧ ∀ q, v.ownBlock = some q → ¬ S' q
section
variable {w w1 wr w' : World} {S : Nat → Prop} {k n : Nat} {R R' : Rk} {E : TypeId} {v : Value} {xs : List Value}
theorem ROwn.nil (h : RNow w S w1 k n R wr) (E : TypeId) : ROwn w S w1 k n R E (.slice none 0 0) [] wr := by
  obtain ⟨S', s1, h1⟩ := h
  exact ⟨S', s1, h1, Own.nil _ _ _, fun q hq => by cases hq⟩
theorem ROwn.now (h : ROwn w S w1 k n R E v xs wr) : RNow w S w1 k n R wr := by
  obtain ⟨S', s1, h1, _⟩ := h
  exact ⟨S', s1, h1⟩
theorem ROwn.own (h : ROwn w S w1 k n R E v xs wr) : Own wr w1.heap.size E v xs := by
  obtain ⟨S', s1, h1, o, _⟩ := h
  exact o
theorem ROwn.size (h : ROwn w S w1 k n R E v xs wr) : w1.heap.size ≤ wr.heap.size := h.now.size
theorem ROwn.keep (h : ROwn w S w1 k n R E v xs wr) {q : Nat} (hq : q < w1.heap.size) (hS : ¬ S q) : wr.heap[q]? = w1.heap[q]? := h.now.keep hq hS
theorem ROwn.after (h : ROwn w S w1 k n R E v xs wr) (hb : Below wr.heap.size wr w') : ROwn w S w1 k n R E v xs w' := by
  obtain ⟨S', s1, h1, o, a⟩ := h
  exact ⟨S', s1.trans (Stp.quiet hb), h1.after hb, o.after hb, a⟩
theorem ROwn.calls (h : ROwn w S w1 k n R E v xs wr) {f : Nat} {args : Array Value} {u : Value} (c : ∀ S', RA w S' wr k n R → Stp S S' w1 wr → Calls Tryz.prog f args wr (RDoes w S' wr k n R' u)) : Calls Tryz.prog f args wr fun e w' => e = .returned u ∧ ROwn w S w1 k n R' E v xs w' := by
  obtain ⟨S', s1, h1, o, a⟩ := h
  refine (c S' h1 s1).mono ?_
  rintro e w' ⟨e1, S2, s2, h2⟩
  refine ⟨e1, S2, s1.trans s2, h2, o.sameAt fun q hq => s2.oth q (o.o.lt q hq).2 (a q hq), fun q hq hs => ?_⟩
  rcases s2.grow q hs with z | z
  · exact a q hq z
  · have := (o.o.lt q hq).2; omega
/-- One more behind it. -/
theorem ROwn.push {P : Program} {T : TypeId} {i : TypeInfo} {z : Value} {bytes : Nat} (hT : P.underlying T = some (.slice E)) (hi : P.info? E = some i) (hz : i.zero = some z) (hs : i.size = 1) (hy : i.bytes = bytes) (hzs : z.cells.size = 1)
    (h : ROwn w S w1 k n R E v xs wr) (hw : w.heap.size ≤ w1.heap.size) (x : Value) (hx : x.oneCell' = true) (hm : (xs.length + 1) * bytes ≤ 140737488355328) (hl : xs.length + 1 ≤ 140737488355328) :
    ∃ v' w', (Builtin.append_ #[T, T] T #[v, .slice (some ⟨wr.heap.size, 0, none⟩) 1 1]).run P (wr.alloc (.cells #[x] E)) = .ok v' w' ∧ ROwn w S w1 k n R E v' (xs ++ [x]) w' := by
  obtain ⟨S', s1, h1, o, a⟩ := h
  obtain ⟨v', w', hap, o', b', kp, hv⟩ := Own.pushA (P := P) (T := T) hT hi hz hs hy hzs o x hx s1.b0.size hm hl
  have hne : ∀ q, S' q → w'.heap[q]? = wr.heap[q]? := fun q hq => kp q (h1.lt q hq) fun e => a q e hq
  refine ⟨v', w', hap, S', ⟨s1.b0.trans (b'.mono (Nat.zero_le _)), fun q hq hS => (kp q (Nat.lt_of_lt_of_le hq s1.b0.size) fun e => ?_).trans (s1.oth q hq hS), s1.grow⟩, RS.other h1 (b'.mono hw) hne, o', fun q hq hs => ?_⟩
  · have := (o.o.lt q e).1; omega
  · rcases hv with e | e
    · rw [e] at hq; exact a q hq hs
    · rw [e] at hq
      injection hq with hq
      have := h1.lt q hs
      omega
end
end Go.Proofs.YtfadglcpapiklaaGreatDoor
end
section
namespace Go.Proofs.YtfadglcpapiklaaGreatDoor
open Go.RowKit
set_option linter.unusedVariables false
set_option linter.unusedSimpArgs false
set_option maxRecDepth 100000

/-- Something is done with each of a list; those whose members have failed are told; any other error ends it. -/
def ea {σ : Type} (f : σ → Int → σ × Int) : σ → List Int → List Int → σ × List Int × Int
  | s, acc, [] => (s, acc, 0)
  | s, acc, x :: xs => if (f s x).2 = 0 then ea f (f s x).1 acc xs else if (f s x).2 = 80 then ea f (f s x).1 (acc ++ [x]) xs else ((f s x).1, [], (f s x).2)
theorem ea_ok {n b : Nat} {f : Rk → Int → Rk × Int} (hf : ∀ R x c, ROk n R c → ROk n (f R x).1 (c + b)) : ∀ (l : List Int) (R : Rk) (acc : List Int) (c : Nat), ROk n R c → ROk n (ea f R acc l).1 (c + b * l.length)
  | [], R, acc, c, h => h.le (by omega)
  | x :: xs, R, acc, c, h => by
    have h1 := hf R x c h
    have e : c + b * (xs.length + 1) = c + b + b * xs.length := by rw [Nat.mul_add]; omega
    unfold ea
    rw [List.length_cons, e]
    by_cases e0 : (f R x).2 = 0
    · rw [if_pos e0]; exact ea_ok hf xs _ _ _ h1
    · rw [if_neg e0]
      by_cases e1 : (f R x).2 = 80
      · rw [if_pos e1]; exact ea_ok hf xs _ _ _ h1
      · rw [if_neg e1]; exact h1.le (by omega)
theorem ea_drop {σ : Type} (f : σ → Int → σ × Int) (s : σ) (acc : List Int) {l : List Int} {i : Nat} (hi : i < l.length) : ea f s acc (l.drop i) = if (f s l[i]).2 = 0 then ea f (f s l[i]).1 acc (l.drop (i + 1)) else if (f s l[i]).2 = 80 then ea f (f s l[i]).1 (acc ++ [l[i]]) (l.drop (i + 1)) else ((f s l[i]).1, [], (f s l[i]).2) := by
  rw [List.drop_eq_getElem_cons hi]; rfl
def EDoes (w : World) (S : Nat → Prop) (w1 : World) (k n : Nat) (X : Rk × List Int × Int) (e : Ending) (w' : World) : Prop := ∃ v, e = .returned (.tuple #[v, .int .i64 X.2.2]) ∧ ROwn w S w1 k n X.1 3 v (X.2.1.map (.int .i64)) w'
section
variable {w w1 : World} {S : Nat → Prop} {k n : Nat} {R : Rk}
set_option maxHeartbeats 2000000 in
theorem each_flush (h : RA w S w1 k n R) (b c : Nat) (hk : ROk n R c) (f : Rk → Int → Rk × Int) (hf : ∀ R x c, ROk n R c → ROk n (f R x).1 (c + b)) (vl : Value) (l : List Int) (hv : Reads w1 vl (l.map (.int .i64))) (hvS : l ≠ [] → ∀ q, vl.ownBlock = some q → ¬ S q) (hl : l.length ≤ 1000000) (hc : c + b * l.length ≤ 1000000000000)
    (hdo : ∀ x ∈ l, ∀ S' R' wr, RA w S' wr k n R' → Stp S S' w1 wr → ROk n R' (1000000000000 - b) → Calls Tryz.prog 29 #[.pointer (some ⟨k, 0, none⟩), .int .i64 x] wr (RDoes w S' wr k n (f R' x).1 (.int .i64 (f R' x).2))) :
    Calls Tryz.prog 49 #[vl, .func (.func 29) #[.pointer (some ⟨k, 0, none⟩)] #[]] w1 (EDoes w S w1 k n (ea f R [] l)) := by
  obtain ⟨va, vc, rfl, hit⟩ := Reads.items hv
  obtain ⟨i2, q1, q2, q3, q4⟩ := info_parts Tryz.infoIc
  have hww : w.heap.size ≤ w1.heap.size := h.b.size
  have HIT : Hid (∀ i (hi : i < l.length), ∃ cb co, va = some ⟨cb, co, none⟩ ∧ ∀ R' v xs wr, ROwn w S w1 k n R' 3 v xs wr → wr.cell? ⟨cb, co + i, none⟩ = some (.int .i64 l[i])) := Lib.hid fun i hi => by
    obtain ⟨cb, co, e1, e2, e3⟩ := hit i hi
    exact ⟨cb, co, e1, fun R' v xs wr hr => (cell_of_heap (hr.keep e2 (hvS (fun z => by rw [z] at hi; exact Nat.not_lt_zero _ hi) cb (by rw [e1]; rfl))) (co + i)).trans e3⟩
  obtain ⟨X, hX⟩ : ∃ X, X = ea f R [] l := ⟨_, rfl⟩
  rw [← hX]
  have HX := Lib.hid hX
  have HD := Lib.hid hdo
  have HN := Lib.hid (ROwn.nil (RNow.start h) 3)
  have HK := Lib.hid hk
  have HF := Lib.hid hf
  clear hX hv hvS hit h hdo hk hf
  go_enter Tryz.func49, Tryz.ntmps49
  go_wp2_with (fail)
  go_loopw [6, 8, 9, 12] (fun v _ _ t wr => ∃ (i : Nat) (R' : Rk) (acc : List Int), i ≤ l.length ∧ t = .int .i64 (i : Int) ∧ X = ea f R' acc (l.drop i) ∧ ROk n R' (c + b * i) ∧ acc.length ≤ i ∧ ROwn w S w1 k n R' 3 v (acc.map (.int .i64)) wr) (fun _ _ _ t _ => l.length - (RowKit.intOf t).toNat)
  case atStart => exact ⟨0, R, [], Nat.zero_le _, rfl, HX.out, HK.out, Nat.le_refl _, HN.out⟩
  case round =>
    clear HX HN HK
    obtain ⟨i, R', acc, hi, rfl, hX, hk, hal, ho⟩ := hrel
    rename World => wr
    by_cases hlt : i < l.length
    · have y1 : (i : Int) < (l.length : Int) := by omega
      obtain ⟨cb, co, rfl, hcell⟩ := HIT.out i hlt
      have hc1 := hcell _ _ _ _ ho
      have hmul : b * (i + 1) ≤ b * l.length := Nat.mul_le_mul_left _ hlt
      have hmul2 : b * (i + 1) = b * i + b := by rw [Nat.mul_add]; omega
      rw [ea_drop f R' acc hlt] at hX
      have hxm0 := List.getElem_mem hlt
      obtain ⟨x, hx⟩ : ∃ x, l[i] = x := ⟨_, rfl⟩
      rw [hx] at hX hc1 hxm0
      clear hx
      have hk12 : ROk n R' (1000000000000 - b) := hk.le (by omega)
      have cx := fun S' hA hs => HD.out x hxm0 S' R' wr hA hs hk12
      have hk2 := HF.out R' x _ hk
      obtain ⟨y, hy⟩ : ∃ y, f R' x = y := ⟨_, rfl⟩
      rw [hy] at cx hX hk2
      have cd := ho.calls cx
      have hHX := Lib.hid hX
      have Hk2 := Lib.hid hk2
      clear hX hcell hk ho cx hk12 hk2 hxm0 hy
      obtain ⟨R2, e2⟩ := y
      by_cases h0 : e2 = 0
      · subst h0
        have hX2 : Hid (X = ea f R2 acc (l.drop (i + 1))) := Lib.hid (by rw [hHX.out, if_pos rfl])
        clear hHX
        go_wp2_with (fail)
        refine cd.mono ?_
        rintro e w3 ⟨rfl, h3⟩
        have H3 := Lib.hid h3
        clear h3 cd hc1
        go_wp2_with (fail)
        go_roundw
        case rel => exact ⟨i + 1, R2, acc, by omega, by go_num, hX2.out, by rw [hmul2, ← Nat.add_assoc]; exact Hk2.out, by omega, H3.out⟩
        case measure => simp [RowKit.intOf]; omega
      · by_cases h80 : e2 = 80
        · subst h80
          have hX2 : Hid (X = ea f R2 (acc ++ [x]) (l.drop (i + 1))) := Lib.hid (by rw [hHX.out, if_neg h0, if_pos rfl])
          clear hHX h0
          go_wp2_with (fail)
          refine cd.mono ?_
          rintro e w3 ⟨rfl, h3⟩
          obtain ⟨v4, w4, hap, h4⟩ := h3.push (P := Tryz.prog) (T := 24) Tryz.underlying24 q1 q2 q3 q4 rfl hww (.int .i64 x) rfl (by rw [List.length_map]; omega) (by rw [List.length_map]; omega)
          have H4 := Lib.hid h4
          clear h3 h4 cd hc1
          go_wp2_with (at_builtin; refine wpList_append_run hap _ _ rfl rfl rfl rfl rfl ?_)
          go_roundw
          case rel => exact ⟨i + 1, R2, acc ++ [x], by omega, by go_num, hX2.out, by rw [hmul2, ← Nat.add_assoc]; exact Hk2.out, by rw [List.length_append]; simp; omega, by rw [List.map_append]; exact H4.out⟩
          case measure => simp [RowKit.intOf]; omega
        · have hX2 : Hid (X = (R2, [], e2)) := Lib.hid (by rw [hHX.out, if_neg h0, if_neg h80])
          clear hHX
          have t1 : (e2 == 0) = false := by rw [beq_eq_false_iff_ne]; exact h0
          have t2 : (e2 == 80) = false := by rw [beq_eq_false_iff_ne]; exact h80
          go_wp2_with (fail)
          refine cd.mono ?_
          rintro e w3 ⟨rfl, h3⟩
          have H3 := Lib.hid (ROwn.nil h3.now 3)
          clear h3 cd hc1
          go_wp2_with (fail)
          go_ret2
          obtain rfl := hX2.out
          exact ⟨_, rfl, H3.out⟩
    · obtain rfl : i = l.length := by omega
      have y1 : ¬ ((l.length : Int) < (l.length : Int)) := by omega
      rw [List.drop_length] at hX
      have hX2 : Hid (X = (R', acc, 0)) := Lib.hid hX
      have H3 := Lib.hid ho
      clear hX ho hk
      go_wp2_with (fail)
      go_ret2
      obtain rfl := hX2.out
      exact ⟨_, rfl, H3.out⟩
end
end Go.Proofs.YtfadglcpapiklaaGreatDoor
end
section
namespace Go.Proofs.YtfadglcpapiklaaGreatDoor
open Go.RowKit
set_option linter.unusedVariables false
set_option linter.unusedSimpArgs false

section
variable {P : Program} {ops : Array Oper} {o : Oper} {a : Act} {S : World → Prop}
theorem yieldsIf_index_run {ty : TypeId} {p iv v : Value} (hw : Region.wanted o (yielded ops a.tmps) = true) (x y : Operand) (ho : o.op = .indexAddr ty x y) (hx : a.eval x = p) (hy : a.eval y = iv) (hS : ∀ w, (Instr.indexAt ty p iv).run P w = .ok v w) : YieldsIf P ops S o v a :=
  .inl ⟨hw, fun w hw' => by
    unfold execOp
    simp only [ho, hx, hy, Sem.run_bind, Sem.run_pure, hS w, Result.andThen_ok]⟩
theorem yieldsIf_bin_run {op : BinOp} {ty ty2 : TypeId} {p q v : Value} (hw : Region.wanted o (yielded ops a.tmps) = true) (x y : Operand) (ho : o.op = .binOp op ty x y ty2) (hx : a.eval x = p) (hy : a.eval y = q) (hg : ∀ w, (eqGuard op ty x y p q).run P w = .ok () w) (hS : ∀ w, (binOp op ty p q).run P w = .ok v w) : YieldsIf P ops S o v a :=
  .inl ⟨hw, fun w hw' => by
    unfold execOp
    simp only [ho, hx, hy, Sem.run_bind, Sem.run_pure, hg w, hS w, Result.andThen_ok]⟩
end
theorem slc_at {P : Program} {T E : TypeId} (hT : P.underlying T = some (.slice E)) (hs : ∀ W, (sizeOf E).run P W = .ok 1 W) (b o n c i : Nat) (hi : i < n) (W : World) : (Instr.indexAt T (.slice (some ⟨b, o, none⟩) n c) (.int .i64 (i : Int))).run P W = .ok (.pointer (some ⟨b, o + i, none⟩)) W := by
  simp [Instr.indexAt, run_underlying hT, asIntOf, hs, hi]
  exact addr_at b o i
theorem cell_load {P : Program} {T : TypeId} (hT : ∀ W, (isAgg T).run P W = .ok false W) {W : World} {b o : Nat} {v : Value} (h : W.cell? ⟨b, o, none⟩ = some v) : (Instr.loadAt T (.pointer (some ⟨b, o, none⟩))).run P W = .ok v W := by
  simp [Instr.loadAt, Instr.sureAddr, asAddr, loadVar, hT W, h]
theorem whole_load {P : Program} {T ty : TypeId} {d : TypeDesc} (hu : P.underlying ty = some d) (hd : (match d with | .struct _ | .array _ _ => true | _ => false) = true) {cs : Array Value} (hi : (P.info? ty).map (·.size) = some cs.size) {W : World} {b : Nat} {fr : Nat × Nat} (h : W.heap[b]? = some (.cells cs T fr)) : (Instr.loadAt ty (.pointer (some ⟨b, 0, none⟩))).run P W = .ok (.agg cs) W := by
  have := run_loadVar_row (P := P) W b T ty cs fr d h hu hd hi
  simp [Instr.loadAt, Instr.sureAddr, asAddr, this]
theorem heap_cell {W : World} {b o : Nat} {cs : Array Value} {T : TypeId} {fr : Nat × Nat} {v : Value} (h : W.heap[b]? = some (.cells cs T fr)) (hv : cs[o]? = some v) : W.cell? ⟨b, o, none⟩ = some v := by
  simp [World.cell?, h, hv]
theorem geo_load {W : World} {b : Nat} {K M B : Int} {fr : Nat × Nat} (h : W.heap[b]? = some (.cells #[.int .i64 K, .int .i64 M, .int .i64 B] 23 fr)) : (Instr.loadAt 23 (.pointer (some ⟨b, 0, none⟩))).run Tryz.prog W = .ok (.agg #[.int .i64 K, .int .i64 M, .int .i64 B]) W :=
  whole_load Tryz.underlying23 rfl (by kernel_rfl) h
theorem Below.drew_ (w : World) : Below w.heap.size w w.drew := ⟨rfl, rfl, rfl, Nat.le_refl _, fun _ _ => rfl⟩
theorem build_str (p : ByteArray) (W : World) : (Instr.buildSlice 54 1 #[(0, .string p)]).run Tryz.prog W = .ok (.slice (some ⟨W.heap.size, 0, none⟩) 1 1) (W.alloc (.cells #[.string p] 9)) := by kernel_rfl
end Go.Proofs.YtfadglcpapiklaaGreatDoor
end
section
namespace Go.Proofs.YtfadglcpapiklaaGreatDoor
open Go.RowKit
set_option linter.unusedVariables false
set_option linter.unusedSimpArgs false
set_option maxRecDepth 100000

structure SGeoAt (w : World) (p : Nat) (K M B : Int) : Prop where
  k : w.cell? ⟨p, 0, none⟩ = some (.int .i64 K)
  m : w.cell? ⟨p, 1, none⟩ = some (.int .i64 M)
  b : w.cell? ⟨p, 2, none⟩ = some (.int .i64 B)
  lt : p < w.heap.size
theorem SGeoAt.below {C : Nat} {w w' : World} {p : Nat} {K M B : Int} (h : SGeoAt w p K M B) (hb : Below C w w') (hC : p < C) : SGeoAt w' p K M B :=
  ⟨(hb.cell (p := ⟨p, 0, none⟩) hC).trans h.k, (hb.cell (p := ⟨p, 1, none⟩) hC).trans h.m, (hb.cell (p := ⟨p, 2, none⟩) hC).trans h.b, Nat.lt_of_lt_of_le h.lt hb.size⟩
theorem SGeoAt.new (w : World) (K M B : Int) : SGeoAt (w.alloc (.cells #[.int .i64 K, .int .i64 M, .int .i64 B] 23)) w.heap.size K M B :=
  ⟨heap_cell (heap_alloc_new _ _) rfl, heap_cell (heap_alloc_new _ _) rfl, heap_cell (heap_alloc_new _ _) rfl, by simp⟩
def sfitsB (n : Nat) (R : Rk) (id K M B : Int) : Bool := decide (1 ≤ id) && (decide (id ≤ 65535) && (gR K M B && (((n : Int) == gSlots K M B) && decide (gSectors K M B ≤ (szK R : Int)))))
section
variable {w w1 : World} {S : Nat → Prop} {k n : Nat} {R : Rk}
set_option maxHeartbeats 4000000 in
theorem sfits_any (h : RA w S w1 k n R) (id K M B : Int) : Calls Tryz.prog 41 #[.pointer (some ⟨k, 0, none⟩), .int .i64 id, .agg #[.int .i64 K, .int .i64 M, .int .i64 B]] w1 fun e w' => e = .returned (.bool (sfitsB n R id K M B)) ∧ Below w1.heap.size w1 w' := by
  obtain ⟨wb, hwb⟩ : ∃ wb, wb = w1.alloc (.cells #[.int .i64 K, .int .i64 M, .int .i64 B] 23) := ⟨_, rfl⟩
  have hb0 : Below w1.heap.size w1 wb := by rw [hwb]; exact (Below.refl _ _).alloc (Nat.le_refl _) _
  have hA : SGeoAt wb w1.heap.size K M B := by rw [hwb]; exact SGeoAt.new w1 K M B
  have c1 : ∀ W, Calls Tryz.prog 77 #[.agg #[.int .i64 K, .int .i64 M, .int .i64 B]] W fun e w' => e = .returned (.bool (gR K M B)) ∧ Below W.heap.size W w' := fun W => gright_any K M B W
  have c2 : ∀ W, Below w1.heap.size w1 W → Calls Tryz.prog 43 #[.pointer (some ⟨k, 0, none⟩)] W fun e w' => e = .returned (.int .i64 (n : Int)) ∧ Below W.heap.size W w' := fun W hW => (rt_slots (h.after hW)).mono fun e w' he => ⟨he.1, by rw [← he.2]; exact Below.refl _ _⟩
  have c3 : ∀ W, Calls Tryz.prog 78 #[.agg #[.int .i64 K, .int .i64 M, .int .i64 B]] W fun e w' => e = .returned (.int .i64 (gSlots K M B)) ∧ Below W.heap.size W w' := fun W => slots_any K M B W
  have c4 : ∀ W, Below w1.heap.size w1 W → Calls Tryz.prog 79 #[.pointer (some ⟨k, 0, none⟩)] W fun e w' => e = .returned (.int .i64 (szK R : Int)) ∧ Below W.heap.size W w' := fun W hW => (rt_sectors (h.after hW)).mono fun e w' he => ⟨he.1, by rw [← he.2]; exact Below.refl _ _⟩
  have c5 : ∀ W, Calls Tryz.prog 80 #[.agg #[.int .i64 K, .int .i64 M, .int .i64 B]] W fun e w' => e = .returned (.int .i64 (gSectors K M B)) ∧ Below W.heap.size W w' := fun W => sectors_any K M B W
  have he : Hid (sfitsB n R id K M B = (decide (1 ≤ id) && (decide (id ≤ 65535) && (gR K M B && (((n : Int) == gSlots K M B) && decide (gSectors K M B ≤ (szK R : Int))))))) := Lib.hid rfl
  generalize sfitsB n R id K M B = X at *
  generalize gSlots K M B = s at *
  generalize gSectors K M B = c at *
  generalize (szK R : Int) = z at *
  generalize gR K M B = b3 at *
  obtain ⟨b1, t1⟩ : ∃ b, decide (1 ≤ id) = b := ⟨_, rfl⟩
  obtain ⟨b2, t2⟩ : ∃ b, decide (id ≤ 65535) = b := ⟨_, rfl⟩
  obtain ⟨b4, t4⟩ : ∃ b, ((n : Int) == s) = b := ⟨_, rfl⟩
  obtain ⟨b5, t5⟩ : ∃ b, decide (c ≤ z) = b := ⟨_, rfl⟩
  rw [t1, t2, t4, t5] at he
  clear h
  cases b1 with
  | false =>
    go_enter Tryz.func41, Tryz.ntmps41
    go_upto_region 1 with (fail)
    rw [show w1.alloc (.cells #[.int .i64 K, .int .i64 M, .int .i64 B] 23) = wb from hwb.symm]
    clear hwb
    refine wp_region_cls (Below wb.heap.size wb) (by kernel_rfl) (by kernel_rfl) (Below.refl _ _).drew ?_
    intro Z f hne hD hE
    have hDw : ∀ z, Below w1.heap.size w1 (f z) := fun z => below_c hb0 (hD z)
    have d0 : ∀ z, (f z).cell? ⟨w1.heap.size, 0, none⟩ = some (.int .i64 K) := fun z => (hA.below (hD z) hA.lt).k
    have d1 : ∀ z, (f z).cell? ⟨w1.heap.size, 1, none⟩ = some (.int .i64 M) := fun z => (hA.below (hD z) hA.lt).m
    have d2 : ∀ z, (f z).cell? ⟨w1.heap.size, 2, none⟩ = some (.int .i64 B) := fun z => (hA.below (hD z) hA.lt).b
    clear hA
    iterate 29 (go_big_quiet_step (first | (go_at_call 77; with_reducible exact toQB hD hE _ (c1 _)) | (go_at_call 43; with_reducible exact toQB hD hE _ (c2 _ (hDw _))) | (go_at_call 78; with_reducible exact toQB hD hE _ (c3 _)) | (go_at_call 79; with_reducible exact toQB hD hE _ (c4 _ (hDw _))) | (go_at_call 80; with_reducible exact toQB hD hE _ (c5 _))))
    refine wpQuiet_nil ?_
    intro _ hw'
    obtain ⟨zq, hw''⟩ := hw'
    subst hw''
    have hB3 := hDw zq
    clear d0 d1 d2
    go_wp2_with (fail)
    go_ret
    exact ⟨by rw [he.out]; rfl, hB3⟩
  | true =>
    cases b2 with
    | false =>
      go_enter Tryz.func41, Tryz.ntmps41
      go_upto_region 1 with (fail)
      rw [show w1.alloc (.cells #[.int .i64 K, .int .i64 M, .int .i64 B] 23) = wb from hwb.symm]
      clear hwb
      refine wp_region_cls (Below wb.heap.size wb) (by kernel_rfl) (by kernel_rfl) (Below.refl _ _).drew ?_
      intro Z f hne hD hE
      have hDw : ∀ z, Below w1.heap.size w1 (f z) := fun z => below_c hb0 (hD z)
      have d0 : ∀ z, (f z).cell? ⟨w1.heap.size, 0, none⟩ = some (.int .i64 K) := fun z => (hA.below (hD z) hA.lt).k
      have d1 : ∀ z, (f z).cell? ⟨w1.heap.size, 1, none⟩ = some (.int .i64 M) := fun z => (hA.below (hD z) hA.lt).m
      have d2 : ∀ z, (f z).cell? ⟨w1.heap.size, 2, none⟩ = some (.int .i64 B) := fun z => (hA.below (hD z) hA.lt).b
      clear hA
      iterate 29 (go_big_quiet_step (first | (go_at_call 77; with_reducible exact toQB hD hE _ (c1 _)) | (go_at_call 43; with_reducible exact toQB hD hE _ (c2 _ (hDw _))) | (go_at_call 78; with_reducible exact toQB hD hE _ (c3 _)) | (go_at_call 79; with_reducible exact toQB hD hE _ (c4 _ (hDw _))) | (go_at_call 80; with_reducible exact toQB hD hE _ (c5 _))))
      refine wpQuiet_nil ?_
      intro _ hw'
      obtain ⟨zq, hw''⟩ := hw'
      subst hw''
      have hB3 := hDw zq
      clear d0 d1 d2
      go_wp2_with (fail)
      go_ret
      exact ⟨by rw [he.out]; rfl, hB3⟩
    | true =>
      cases b3 with
      | false =>
        go_enter Tryz.func41, Tryz.ntmps41
        go_upto_region 1 with (fail)
        rw [show w1.alloc (.cells #[.int .i64 K, .int .i64 M, .int .i64 B] 23) = wb from hwb.symm]
        clear hwb
        refine wp_region_cls (Below wb.heap.size wb) (by kernel_rfl) (by kernel_rfl) (Below.refl _ _).drew ?_
        intro Z f hne hD hE
        have hDw : ∀ z, Below w1.heap.size w1 (f z) := fun z => below_c hb0 (hD z)
        have d0 : ∀ z, (f z).cell? ⟨w1.heap.size, 0, none⟩ = some (.int .i64 K) := fun z => (hA.below (hD z) hA.lt).k
        have d1 : ∀ z, (f z).cell? ⟨w1.heap.size, 1, none⟩ = some (.int .i64 M) := fun z => (hA.below (hD z) hA.lt).m
        have d2 : ∀ z, (f z).cell? ⟨w1.heap.size, 2, none⟩ = some (.int .i64 B) := fun z => (hA.below (hD z) hA.lt).b
        clear hA
        iterate 29 (go_big_quiet_step (first | (go_at_call 77; with_reducible exact toQB hD hE _ (c1 _)) | (go_at_call 43; with_reducible exact toQB hD hE _ (c2 _ (hDw _))) | (go_at_call 78; with_reducible exact toQB hD hE _ (c3 _)) | (go_at_call 79; with_reducible exact toQB hD hE _ (c4 _ (hDw _))) | (go_at_call 80; with_reducible exact toQB hD hE _ (c5 _))))
        refine wpQuiet_nil ?_
        intro _ hw'
        obtain ⟨zq, hw''⟩ := hw'
        subst hw''
        have hB3 := hDw zq
        clear d0 d1 d2
        go_wp2_with (fail)
        go_ret
        exact ⟨by rw [he.out]; rfl, hB3⟩
      | true =>
        cases b4 with
        | false =>
          go_enter Tryz.func41, Tryz.ntmps41
          go_upto_region 1 with (fail)
          rw [show w1.alloc (.cells #[.int .i64 K, .int .i64 M, .int .i64 B] 23) = wb from hwb.symm]
          clear hwb
          refine wp_region_cls (Below wb.heap.size wb) (by kernel_rfl) (by kernel_rfl) (Below.refl _ _).drew ?_
          intro Z f hne hD hE
          have hDw : ∀ z, Below w1.heap.size w1 (f z) := fun z => below_c hb0 (hD z)
          have d0 : ∀ z, (f z).cell? ⟨w1.heap.size, 0, none⟩ = some (.int .i64 K) := fun z => (hA.below (hD z) hA.lt).k
          have d1 : ∀ z, (f z).cell? ⟨w1.heap.size, 1, none⟩ = some (.int .i64 M) := fun z => (hA.below (hD z) hA.lt).m
          have d2 : ∀ z, (f z).cell? ⟨w1.heap.size, 2, none⟩ = some (.int .i64 B) := fun z => (hA.below (hD z) hA.lt).b
          clear hA
          iterate 29 (go_big_quiet_step (first | (go_at_call 77; with_reducible exact toQB hD hE _ (c1 _)) | (go_at_call 43; with_reducible exact toQB hD hE _ (c2 _ (hDw _))) | (go_at_call 78; with_reducible exact toQB hD hE _ (c3 _)) | (go_at_call 79; with_reducible exact toQB hD hE _ (c4 _ (hDw _))) | (go_at_call 80; with_reducible exact toQB hD hE _ (c5 _))))
          refine wpQuiet_nil ?_
          intro _ hw'
          obtain ⟨zq, hw''⟩ := hw'
          subst hw''
          have hB3 := hDw zq
          clear d0 d1 d2
          go_wp2_with (fail)
          go_ret
          exact ⟨by rw [he.out]; rfl, hB3⟩
        | true =>
          cases b5 with
          | false =>
            go_enter Tryz.func41, Tryz.ntmps41
            go_upto_region 1 with (fail)
            rw [show w1.alloc (.cells #[.int .i64 K, .int .i64 M, .int .i64 B] 23) = wb from hwb.symm]
            clear hwb
            refine wp_region_cls (Below wb.heap.size wb) (by kernel_rfl) (by kernel_rfl) (Below.refl _ _).drew ?_
            intro Z f hne hD hE
            have hDw : ∀ z, Below w1.heap.size w1 (f z) := fun z => below_c hb0 (hD z)
            have d0 : ∀ z, (f z).cell? ⟨w1.heap.size, 0, none⟩ = some (.int .i64 K) := fun z => (hA.below (hD z) hA.lt).k
            have d1 : ∀ z, (f z).cell? ⟨w1.heap.size, 1, none⟩ = some (.int .i64 M) := fun z => (hA.below (hD z) hA.lt).m
            have d2 : ∀ z, (f z).cell? ⟨w1.heap.size, 2, none⟩ = some (.int .i64 B) := fun z => (hA.below (hD z) hA.lt).b
            clear hA
            iterate 29 (go_big_quiet_step (first | (go_at_call 77; with_reducible exact toQB hD hE _ (c1 _)) | (go_at_call 43; with_reducible exact toQB hD hE _ (c2 _ (hDw _))) | (go_at_call 78; with_reducible exact toQB hD hE _ (c3 _)) | (go_at_call 79; with_reducible exact toQB hD hE _ (c4 _ (hDw _))) | (go_at_call 80; with_reducible exact toQB hD hE _ (c5 _))))
            refine wpQuiet_nil ?_
            intro _ hw'
            obtain ⟨zq, hw''⟩ := hw'
            subst hw''
            have hB3 := hDw zq
            clear d0 d1 d2
            go_wp2_with (fail)
            go_ret
            exact ⟨by rw [he.out]; rfl, hB3⟩
          | true =>
            go_enter Tryz.func41, Tryz.ntmps41
            go_upto_region 1 with (fail)
            rw [show w1.alloc (.cells #[.int .i64 K, .int .i64 M, .int .i64 B] 23) = wb from hwb.symm]
            clear hwb
            refine wp_region_cls (Below wb.heap.size wb) (by kernel_rfl) (by kernel_rfl) (Below.refl _ _).drew ?_
            intro Z f hne hD hE
            have hDw : ∀ z, Below w1.heap.size w1 (f z) := fun z => below_c hb0 (hD z)
            have d0 : ∀ z, (f z).cell? ⟨w1.heap.size, 0, none⟩ = some (.int .i64 K) := fun z => (hA.below (hD z) hA.lt).k
            have d1 : ∀ z, (f z).cell? ⟨w1.heap.size, 1, none⟩ = some (.int .i64 M) := fun z => (hA.below (hD z) hA.lt).m
            have d2 : ∀ z, (f z).cell? ⟨w1.heap.size, 2, none⟩ = some (.int .i64 B) := fun z => (hA.below (hD z) hA.lt).b
            clear hA
            iterate 29 (go_big_quiet_step (first | (go_at_call 77; with_reducible exact toQB hD hE _ (c1 _)) | (go_at_call 43; with_reducible exact toQB hD hE _ (c2 _ (hDw _))) | (go_at_call 78; with_reducible exact toQB hD hE _ (c3 _)) | (go_at_call 79; with_reducible exact toQB hD hE _ (c4 _ (hDw _))) | (go_at_call 80; with_reducible exact toQB hD hE _ (c5 _))))
            refine wpQuiet_nil ?_
            intro _ hw'
            obtain ⟨zq, hw''⟩ := hw'
            subst hw''
            have hB3 := hDw zq
            clear d0 d1 d2
            go_wp2_with (fail)
            go_ret
            exact ⟨by rw [he.out]; rfl, hB3⟩
end
end Go.Proofs.YtfadglcpapiklaaGreatDoor
end
section
namespace Go.Proofs.YtfadglcpapiklaaGreatDoor
open Go.RowKit
set_option linter.unusedVariables false
set_option linter.unusedSimpArgs false
set_option maxRecDepth 100000

def sidxI (l : List Int) (x : Int) : Int := if x ∈ l then (l.idxOf x : Int) else -1
theorem sidxI_here {l : List Int} {x : Int} {k : Nat} (hk : k < l.length) (h : l[k] = x) (hb : ∀ j (hj : j < l.length), j < k → l[j] ≠ x) : sidxI l x = (k : Int) := by
  have hm : x ∈ l := by rw [← h]; exact List.getElem_mem hk
  unfold sidxI
  rw [if_pos hm]
  have hlt := List.idxOf_lt_length_of_mem hm
  have hg : l[l.idxOf x] = x := List.getElem_idxOf hlt
  have h1 : ¬ l.idxOf x < k := fun z => hb _ hlt z hg
  have h2 : ¬ k < l.idxOf x := fun z => by
    have := List.not_of_lt_findIdx (p := (· == x)) (xs := l) (i := k) z
    simp [h] at this
  omega
theorem sidxI_none {l : List Int} {x : Int} (hb : ∀ j (hj : j < l.length), l[j] ≠ x) : sidxI l x = -1 := if_neg fun hm => by
  obtain ⟨k, hk, h⟩ := List.getElem_of_mem hm
  exact hb k hk h
set_option maxHeartbeats 1000000 in
theorem index_int (v : Value) (l : List Int) (w : World) (hv : Reads w v (l.map (.int .i64))) (x : Int) (hl : l.length ≤ 1000000) :
    Calls Tryz.prog 110 #[v, .int .i64 x] w fun e w' => e = .returned (.int .i64 (sidxI l x)) ∧ w = w' := by
  obtain ⟨va, vc, rfl, hit⟩ := Reads.items hv
  have HIT := Lib.hid hit
  clear hit hv
  go_enter Tryz.func110, Tryz.ntmps110
  go_wp2_with (fail)
  go_loopw [5, 8] (fun _ t wr => ∃ i : Nat, i ≤ l.length ∧ t = .int .i64 (i : Int) ∧ Hid (∀ j (hj : j < l.length), j < i → l[j] ≠ x) ∧ w = wr) (fun _ t _ => l.length - (RowKit.intOf t).toNat)
  case atStart => exact ⟨0, Nat.zero_le _, rfl, Lib.hid (fun j _ hj => absurd hj (Nat.not_lt_zero _)), rfl⟩
  case round =>
    obtain ⟨i, hi, rfl, hb, rfl⟩ := hrel
    by_cases hlt : i < l.length
    · have y1 : (i : Int) < (l.length : Int) := by omega
      obtain ⟨cb, co, rfl, _, hc⟩ := HIT.out i hlt
      have hhere := Lib.hid (fun h => sidxI_here hlt h hb.out)
      have hnext : Hid (l[i] ≠ x → ∀ j (hj : j < l.length), j < i + 1 → l[j] ≠ x) := Lib.hid fun hn j hj hj2 => by
        rcases Nat.lt_succ_iff_lt_or_eq.1 hj2 with h1 | rfl
        · exact hb.out j hj h1
        · exact hn
      generalize hy : l[i] = y at *
      clear hb hy
      by_cases e : y = x
      · have te : (x == y) = true := by rw [e]; simp
        have hf := Lib.hid (hhere.out e)
        clear hhere hnext
        go_wp2_with (fail)
        go_ret
        exact ⟨by rw [hf.out]; rfl, rfl⟩
      · have te : (x == y) = false := by rw [beq_eq_false_iff_ne]; exact fun z => e z.symm
        have hf := Lib.hid (hnext.out e)
        clear hhere hnext
        go_wp2_with (fail)
        go_roundw
        case rel => exact ⟨i + 1, by omega, by go_num, Lib.hid hf.out, by first | rfl | trivial⟩
        case measure => simp [RowKit.intOf]; omega
    · obtain rfl : i = l.length := by omega
      have y1 : ¬ ((l.length : Int) < (l.length : Int)) := by omega
      have hf := Lib.hid (sidxI_none fun j hj => hb.out j hj hj)
      clear hb
      go_wp2_with (fail)
      go_ret
      exact ⟨by rw [hf.out]; rfl, rfl⟩
theorem contains_int (v : Value) (l : List Int) (w : World) (hv : Reads w v (l.map (.int .i64))) (x : Int) (hl : l.length ≤ 1000000) :
    Calls Tryz.prog 81 #[v, .int .i64 x] w fun e w' => e = .returned (.bool (decide (x ∈ l))) ∧ w = w' := by
  have ci := index_int v l w hv x hl
  have he : Hid (decide (0 ≤ sidxI l x) = decide (x ∈ l)) := Lib.hid (by
    unfold sidxI
    by_cases h : x ∈ l
    · rw [if_pos h, decide_eq_true h, decide_eq_true (by omega)]
    · rw [if_neg h, decide_eq_false h]; rfl)
  generalize sidxI l x = y at *
  generalize decide (x ∈ l) = b at *
  clear hv
  go_enter Tryz.func81, Tryz.ntmps81
  go_wp2_with (fail)
  refine ci.mono ?_
  rintro e w2 ⟨rfl, rfl⟩
  go_wp2_with (fail)
  go_ret
  exact ⟨by rw [← he.out]; rfl, rfl⟩
/-- Are all among the first n, and each once? -/
def srightB (l : List Int) (n : Int) : Bool := decide ((∀ x ∈ l, 0 ≤ x ∧ x < n) ∧ l.Nodup)
theorem srightB_no {l : List Int} {n : Int} {i : Nat} (hi : i < l.length) (h : ¬ (0 ≤ l[i] ∧ l[i] < n) ∨ l[i] ∈ l.take i) : srightB l n = false := decide_eq_false fun ⟨h1, h2⟩ => by
  rcases h with h | h
  · exact h (h1 _ (List.getElem_mem hi))
  · have e : l = l.take i ++ l[i] :: l.drop (i + 1) := by rw [← List.drop_eq_getElem_cons hi, List.take_append_drop]
    rw [e] at h2
    exact (List.nodup_append.1 h2).2.2 _ h _ List.mem_cons_self rfl
set_option maxHeartbeats 2000000 in
theorem sright_any (v : Value) (l : List Int) (w : World) (hv : Reads w v (l.map (.int .i64))) (hcap : capOk v) (n : Int) (hl : l.length ≤ 1000000) :
    Calls Tryz.prog 42 #[v, .int .i64 n] w fun e w' => e = .returned (.bool (srightB l n)) ∧ w = w' := by
  obtain ⟨i0, hi0, hy0, hy1, hy2⟩ := info_parts Tryz.infoI
  have HTO : Hid (∀ m, m ≤ l.length → ∃ v2, (∀ W, (Instr.slice 24 v none (some (.int .i64 (m : Int))) none).run Tryz.prog W = .ok v2 W) ∧ Reads w v2 ((l.take m).map (.int .i64))) := Lib.hid fun m hm => by
    obtain ⟨v2, h1, h2⟩ := Reads.to_run (P := Tryz.prog) (T := 24) Tryz.underlying24 hi0 hy1 hv hcap (m := m) (by rw [List.length_map]; exact hm)
    exact ⟨v2, h1, by rw [List.map_take]; exact h2⟩
  obtain ⟨va, vc, rfl, hit⟩ := Reads.items hv
  have HIT := Lib.hid hit
  clear hit hv hcap
  go_enter Tryz.func42, Tryz.ntmps42
  go_wp2_with (fail)
  go_loopw [5, 6, 9] (fun _ _ t wr => ∃ i : Nat, i ≤ l.length ∧ t = .int .i64 (i : Int) ∧ Hid ((∀ j (hj : j < l.length), j < i → 0 ≤ l[j] ∧ l[j] < n) ∧ (l.take i).Nodup) ∧ w = wr) (fun _ _ t _ => l.length - (RowKit.intOf t).toNat)
  case atStart => exact ⟨0, Nat.zero_le _, rfl, Lib.hid ⟨fun j _ hj => absurd hj (Nat.not_lt_zero _), by simp⟩, rfl⟩
  case round =>
    obtain ⟨i, hi, rfl, hb, rfl⟩ := hrel
    by_cases hlt : i < l.length
    · have y1 : (i : Int) < (l.length : Int) := by omega
      obtain ⟨cb, co, rfl, _, hc⟩ := HIT.out i hlt
      have hno : Hid (¬ (0 ≤ l[i] ∧ l[i] < n) ∨ l[i] ∈ l.take i → srightB l n = false) := Lib.hid (srightB_no hlt)
      have hnext : Hid ((0 ≤ l[i] ∧ l[i] < n) → l[i] ∉ l.take i → (∀ j (hj : j < l.length), j < i + 1 → 0 ≤ l[j] ∧ l[j] < n) ∧ (l.take (i + 1)).Nodup) := Lib.hid fun h1 h2 => by
        refine ⟨fun j hj hj2 => ?_, ?_⟩
        · rcases Nat.lt_succ_iff_lt_or_eq.1 hj2 with h3 | rfl
          · exact hb.out.1 j hj h3
          · exact h1
        · rw [List.take_succ_eq_append_getElem hlt]
          exact List.nodup_append.2 ⟨hb.out.2, by simp, fun a ha b hb2 e => h2 (by rw [List.mem_singleton] at hb2; rw [← hb2, ← e]; exact ha)⟩
      obtain ⟨v2, hsl, hr2⟩ := HTO.out i hi
      have cc := contains_int v2 (l.take i) w hr2 l[i] (by rw [List.length_take]; omega)
      obtain ⟨m, hm⟩ : ∃ m, decide (l[i] ∈ l.take i) = m := ⟨_, rfl⟩
      rw [hm] at cc
      obtain ⟨y, hy⟩ : ∃ y, l[i] = y := ⟨_, rfl⟩
      rw [hy] at hno hnext cc hc hm
      clear hb hr2 hy
      by_cases h1 : y < 0
      · have hf := Lib.hid (hno.out (.inl (by omega)))
        clear hno hnext cc hm
        go_wp2_with (fail)
        go_ret
        exact ⟨by rw [hf.out]; rfl, rfl⟩
      · by_cases h2 : n ≤ y
        · have hf := Lib.hid (hno.out (.inl (by omega)))
          clear hno hnext cc hm
          go_wp2_with (fail)
          go_ret
          exact ⟨by rw [hf.out]; rfl, rfl⟩
        · cases m with
          | true =>
            have hf := Lib.hid (hno.out (.inr (of_decide_eq_true hm)))
            clear hno hnext hm
            go_wp2_with (fail)
            refine cc.mono ?_
            rintro e w2 ⟨rfl, rfl⟩
            go_wp2_with (fail)
            go_ret
            exact ⟨by rw [hf.out]; rfl, rfl⟩
          | false =>
            have hf := Lib.hid (hnext.out ⟨by omega, by omega⟩ (of_decide_eq_false hm))
            clear hno hnext hm
            go_wp2_with (fail)
            refine cc.mono ?_
            rintro e w2 ⟨rfl, rfl⟩
            go_wp2_with (fail)
            go_roundw
            case rel => exact ⟨i + 1, by omega, by go_num, Lib.hid hf.out, by first | rfl | trivial⟩
            case measure => simp [RowKit.intOf]; omega
    · obtain rfl : i = l.length := by omega
      have y1 : ¬ ((l.length : Int) < (l.length : Int)) := by omega
      have hf : Hid (srightB l n = true) := Lib.hid (decide_eq_true ⟨fun x hx => by
        obtain ⟨j, hj, e⟩ := List.getElem_of_mem hx
        rw [← e]; exact hb.out.1 j hj hj, by have := hb.out.2; rwa [List.take_length] at this⟩)
      clear hb
      go_wp2_with (fail)
      go_ret
      exact ⟨by rw [hf.out]; rfl, rfl⟩
def allowB (n : Nat) (R : Rk) (id K M B : Int) (l : List Int) (N : Int) : Bool := sfitsB n R id K M B && (srightB l (n : Int) && (decide (0 ≤ N) && decide (N < gStripes K M B)))
section
variable {w w1 : World} {S : Nat → Prop} {k n : Nat} {R : Rk}
end
end Go.Proofs.YtfadglcpapiklaaGreatDoor
end
