/- journal: Last. -/
import Derived.Test.YtfadglcpapiklaaGreatDoorJrnTells
namespace Go.Proofs.YtfadglcpapiklaaGreatDoor
open Go.RowKit
open Rc
set_option linter.unusedVariables false
set_option linter.unusedSimpArgs false
set_option maxRecDepth 100000

/-- A record: its number, its stripes. -/
abbrev RecM := Int × List (Int × List ByteArray)
/-- The record that is complete in a bay of a slot, if one is. -/
def candM (K M B : Int) (x : ByteArray × List ByteArray × Bool) : Option RecM := if takeB K M B x.1 x.2.1 = true then some (hdQ x.1, takeL K x.1 x.2.1) else none
/-- The first one of the greatest number. -/
def betterM (b c : Option RecM) : Option RecM :=
  match c with
  | none => b
  | some y => match b with
    | none => some y
    | some x => if y.1 > x.1 then some y else some x
def bayM (n : Nat) (R : Rk) (id K M B slot : Int) (j : Nat) : Option RecM := candM K M B (lkM n R id K M B slot (bayA K M B j))
def slotM (n : Nat) (R : Rk) (id K M B : Int) (b : Option RecM) (slot : Int) : Option RecM := betterM (betterM b (bayM n R id K M B slot 0)) (bayM n R id K M B slot 1)
def bestM (n : Nat) (R : Rk) (id K M B : Int) (l : List Int) : Option RecM := l.foldl (slotM n R id K M B) none
def laM (n : Nat) (R : Rk) (id K M B : Int) (l : List Int) : Option RecM × Int :=
  if sfitsB n R id K M B = true ∧ srightB l (n : Int) = true then (if R.off = true then (none, 90) else (bestM n R id K M B l, 0)) else (none, 1)
/-- A record as it lies: what was found, or an empty one. -/
def IsRec (b : Option RecM) (q : Int) (l : List St) : Prop :=
  match b with
  | none => q = 0 ∧ l = []
  | some y => q = y.1 ∧ l.map pr = y.2
def LastTo (w : World) (x : Option RecM × Int) (e : Ending) (w' : World) : Prop := ∃ q v l, e = .returned (.tuple #[.agg #[.int .i64 q, v], .bool x.1.isSome, .int .i64 x.2]) ∧ SFam w' w.heap.size v l ∧ IsRec x.1 q l ∧ Below w.heap.size w w'
/-- What the loops of Last keep: a box with the best one found so far. -/
structure LaIn (w : World) (b C : Nat) (q : Int) (v : Value) (l : List St) (best : Option RecM) (wr : World) : Prop where
  x : RBx wr b q v
  f : SFam wr C v l
  r : IsRec best q l
  w : Below w.heap.size w wr
theorem LaIn.after {w wr w' : World} {b C : Nat} {q : Int} {v : Value} {l : List St} {best : Option RecM} (h : LaIn w b C q v l best wr) (hb : Below wr.heap.size wr w') : LaIn w b C q v l best w' :=
  ⟨h.x.below hb h.x.lt, h.f.after hb, h.r, h.w.trans (hb.mono h.w.size)⟩
theorem SFam.isSlice {w : World} {B : Nat} {v : Value} {l : List St} (h : SFam w B v l) : ∃ a c, v = .slice a l.length c := h.o.isSlice
theorem res_last {tm : Array Value} {W : World} {b : Nat} {q : Int} {v x y : Value} (h : RBx W b q v) (h8 : tm.getD 8 undef = .pointer (some ⟨b, 0, none⟩)) (h9 : tm.getD 9 undef = x) (h10 : tm.getD 10 undef = y) :
    (results Tryz.f19 tm).run Tryz.prog W = .ok (.tuple #[.agg #[.int .i64 q, v], x, y]) W := by
  have h8' : tm[8]?.getD undef = .pointer (some ⟨b, 0, none⟩) := by simpa using h8
  have h9' : tm[9]?.getD undef = x := by simpa using h9
  have h10' : tm[10]?.getD undef = y := by simpa using h10
  simp [results, Tryz.results19, go_sem, h8', h9', h10', h.c0, h.c1]
theorem lk_small (n : Nat) (R : Rk) (id K M B slot a : Int) : (lkM n R id K M B slot a).1.size ≤ 120 ∧ (∀ t ∈ (lkM n R id K M B slot a).2.1, t.size ≤ 120) ∧ (lkM n R id K M B slot a).2.1.length ≤ 64 := by
  unfold lkM
  split
  · split
    · rename_i h1 h2
      have := (lkC_int h2.1).2
      split
      · refine ⟨sr_size _ _ _ _ _, fun t ht => ?_, by simpa using this⟩
        obtain ⟨i, _, e⟩ := List.mem_map.1 ht
        rw [← e]; exact sr_size _ _ _ _ _
      · exact ⟨by show (0 : Nat) ≤ 120; omega, by simp, by simp⟩
    · exact ⟨by show (0 : Nat) ≤ 120; omega, by simp, by simp⟩
  · exact ⟨by show (0 : Nat) ≤ 120; omega, by simp, by simp⟩
theorem RBx.drop {w : World} {b C : Nat} {v : Value} {l : List St} (h : SFam w C v l) (hb : b < C) (x : Value) (p : Int) : SFam ((w.setCell ⟨b, 0, none⟩ (.int .i64 p)).setCell ⟨b, 1, none⟩ x) C v l :=
  h.heapO fun u hu k hk => put_heap w b p x (by have := (h.old u hu k hk).1; omega)
/-- The bays of one slot, so many of them. -/
def inM (n : Nat) (R : Rk) (id K M B slot : Int) (b : Option RecM) (j : Nat) : Option RecM := (List.range j).foldl (fun b j => betterM b (bayM n R id K M B slot j)) b
theorem inM_succ (n : Nat) (R : Rk) (id K M B slot : Int) (b : Option RecM) (j : Nat) : inM n R id K M B slot b (j + 1) = betterM (inM n R id K M B slot b j) (bayM n R id K M B slot j) := by
  unfold inM; rw [List.range_succ, List.foldl_append]; rfl
theorem best_succ (n : Nat) (R : Rk) (id K M B : Int) (l : List Int) {i : Nat} (hi : i < l.length) : (l.take (i + 1)).foldl (slotM n R id K M B) none = inM n R id K M B l[i] ((l.take i).foldl (slotM n R id K M B) none) 2 := by
  rw [List.take_add_one, List.getElem?_eq_getElem hi, List.foldl_append]; rfl
section
variable {w w1 : World} {S : Nat → Prop} {k n : Nat} {R : Rk}
set_option maxHeartbeats 4000000 in
theorem last_any (h : RA w S w1 k n R) (hk : ROk n R 1000000000000) (id K M B : Int) (vl : Value) (l : List Int) (hv : LsN w1 S vl l) (hcap : capOk vl) (hl : l.length ≤ 1000) :
    Calls Tryz.prog 19 #[.pointer (some ⟨k, 0, none⟩), .int .i64 id, .agg #[.int .i64 K, .int .i64 M, .int .i64 B], vl] w1 (LastTo w1 (laM n R id K M B l)) := by
  obtain ⟨va, vc, hvf⟩ := hv.r.form
  rw [List.length_map] at hvf
  subst hvf
  have hs1 : (w1.alloc (.cells #[.int .i64 K, .int .i64 M, .int .i64 B] 23)).heap.size = w1.heap.size + 1 := by simp
  obtain ⟨W0, hW0⟩ : ∃ W0, W0 = (w1.alloc (.cells #[.int .i64 K, .int .i64 M, .int .i64 B] 23)).alloc (.cells #[.int .i64 0, .slice none 0 0] 30) := ⟨_, rfl⟩
  obtain ⟨p, hp⟩ : ∃ p, w1.heap.size = p := ⟨_, rfl⟩
  have ba : Below w1.heap.size w1 (w1.alloc (.cells #[.int .i64 K, .int .i64 M, .int .i64 B] 23)) := (Below.refl _ _).alloc (Nat.le_refl _) _
  have bb : Below (w1.alloc (.cells #[.int .i64 K, .int .i64 M, .int .i64 B] 23)).heap.size (w1.alloc (.cells #[.int .i64 K, .int .i64 M, .int .i64 B] 23)) W0 := by rw [hW0]; exact (Below.refl _ _).alloc (Nat.le_refl _) _
  have hb0 : Below w1.heap.size w1 W0 := ba.trans (bb.mono ba.size)
  have hg : W0.heap[p]? = some (.cells #[.int .i64 K, .int .i64 M, .int .i64 B] 23 (0, 0)) := (bb.block p (by omega)).trans (by rw [← hp]; exact heap_alloc_new _ _)
  have hpl := (Array.getElem?_eq_some_iff.1 hg).1
  have hr8 : RBx W0 (p + 1) 0 (.slice none 0 0) := by
    have := RBx.made (w1.alloc (.cells #[.int .i64 K, .int .i64 M, .int .i64 B] 23)) 0 (.slice none 0 0) 30
    rw [hs1, hp] at this
    rw [hW0]; exact this
  have BX : Hid (∀ W, Below W0.heap.size W0 W → W.cell? ⟨p, 0, none⟩ = some (.int .i64 K) ∧ W.cell? ⟨p, 1, none⟩ = some (.int .i64 M) ∧ W.cell? ⟨p, 2, none⟩ = some (.int .i64 B)) := Lib.hid fun W hW => by
    have e := (hW.block p hpl).trans hg
    exact ⟨heap_cell e rfl, heap_cell e rfl, heap_cell e rfl⟩
  obtain ⟨y1, y2, y3⟩ := BX.out W0 (Below.refl _ _)
  have cF := sfits_any (h.after hb0) id K M B
  have CO : Hid (∀ W, Below w1.heap.size w1 W → Calls Tryz.prog 57 #[.pointer (some ⟨k, 0, none⟩)] W fun e w' => e = .returned (.bool R.off) ∧ W = w') := Lib.hid fun W hW => rt_off (h.after hW)
  have CS : Hid (∀ W, Below w1.heap.size w1 W → Calls Tryz.prog 43 #[.pointer (some ⟨k, 0, none⟩)] W fun e w' => e = .returned (.int .i64 (n : Int)) ∧ W = w') := Lib.hid fun W hW => rt_slots (h.after hW)
  have CR : Hid (∀ W, Below w1.heap.size w1 W → Calls Tryz.prog 42 #[.slice va l.length vc, .int .i64 (n : Int)] W fun e w' => e = .returned (.bool (srightB l (n : Int))) ∧ W = w') := Lib.hid fun W hW => sright_any _ l W (hv.r.below hW) hcap _ (by omega)
  have CLK : Hid (∀ W (slot a : Int), Below w1.heap.size w1 W → 0 ≤ a ∧ a ≤ 100 → Calls Tryz.prog 59 #[.pointer (some ⟨k, 0, none⟩), .int .i64 id, .agg #[.int .i64 K, .int .i64 M, .int .i64 B], .int .i64 slot, .int .i64 a] W (LookTo W (lkM n R id K M B slot a))) := Lib.hid fun W slot a hW ha => look_any (h.after hW) hk id K M B slot a ha
  have HB0 := Lib.hid hb0
  have HR8 := Lib.hid hr8
  have HPL := Lib.hid (And.intro hp (show p + 1 < W0.heap.size from hr8.lt))
  have HIT : Hid (∀ W, Below w1.heap.size w1 W → ∀ i (hi : i < l.length), ∃ cb co, va = some ⟨cb, co, none⟩ ∧ W.cell? ⟨cb, co + i, none⟩ = some (.int .i64 l[i])) := Lib.hid fun W hW i hi => by
    obtain ⟨va', vc', hv', hit⟩ := Reads.items (hv.r.below hW)
    injection hv' with z1 z2 z3
    subst z1
    obtain ⟨cb, co, e1, _, e3⟩ := hit i hi
    exact ⟨cb, co, e1, e3⟩
  clear hg hpl hb0 ba bb hr8 hv hcap h hk hs1
  by_cases hfr : sfitsB n R id K M B = true ∧ srightB l (n : Int) = true
  · obtain ⟨hfit, hri⟩ := hfr
    rw [hfit] at cF
    rw [hri] at CR
    by_cases hoff : R.off = true
    · have hX : laM n R id K M B l = (none, 90) := by unfold laM; rw [if_pos ⟨hfit, hri⟩, if_pos hoff]
      rw [hX]
      rw [hoff] at CO
      clear hX hfit hri hoff
      go_enter Tryz.func19, Tryz.ntmps19
      go_wp2_with (fail)
      rw [show (w1.alloc (.cells #[.int .i64 K, .int .i64 M, .int .i64 B] 23)).alloc (.cells #[.int .i64 0, .slice none 0 0] 30) = W0 from hW0.symm]
      clear hW0 hp
      refine cF.mono ?_
      rintro e w2 ⟨rfl, b2⟩
      clear cF y1 y2 y3
      go_wp2_with (fail)
      refine (CS.out w2 (HB0.out.trans (b2.mono HB0.out.size))).mono ?_
      rintro e w2' ⟨rfl, rfl⟩
      go_wp2_with (fail)
      refine (CR.out w2 (HB0.out.trans (b2.mono HB0.out.size))).mono ?_
      rintro e w2' ⟨rfl, rfl⟩
      go_wp2_with (fail)
      refine (CO.out w2 (HB0.out.trans (b2.mono HB0.out.size))).mono ?_
      rintro e w2' ⟨rfl, rfl⟩
      have z2 := HR8.out.below b2 HPL.out.2
      have hfin := Lib.hid (put_below (HB0.out.trans (b2.mono HB0.out.size)) (by have := HPL.out.1; omega : w1.heap.size ≤ p + 1) 0 (.slice none 0 0))
      have z2' := z2
      obtain ⟨s0, s1, s2, s3, _⟩ := z2
      clear b2
      go_wp2_with (fail)
      refine bodyPost_ret (res_last (z2'.put 0 (.slice none 0 0)) rfl rfl rfl) rfl ?_
      exact ⟨0, _, [], rfl, SFam.nil _ _, ⟨rfl, rfl⟩, hfin.out⟩
    · have hX : laM n R id K M B l = (bestM n R id K M B l, 0) := by unfold laM; rw [if_pos ⟨hfit, hri⟩, if_neg hoff]
      rw [hX]
      rw [Bool.not_eq_true] at hoff
      rw [hoff] at CO
      have hg01 := head_01 (sfits_g hfit)
      clear hX hfit hri hoff
      go_enter Tryz.func19, Tryz.ntmps19
      go_wp2_with (fail)
      rw [show (w1.alloc (.cells #[.int .i64 K, .int .i64 M, .int .i64 B] 23)).alloc (.cells #[.int .i64 0, .slice none 0 0] 30) = W0 from hW0.symm]
      clear hW0 hp
      refine cF.mono ?_
      rintro e w2 ⟨rfl, b2⟩
      clear cF y1 y2 y3
      go_wp2_with (fail)
      refine (CS.out w2 (HB0.out.trans (b2.mono HB0.out.size))).mono ?_
      rintro e w2' ⟨rfl, rfl⟩
      go_wp2_with (fail)
      refine (CR.out w2 (HB0.out.trans (b2.mono HB0.out.size))).mono ?_
      rintro e w2' ⟨rfl, rfl⟩
      go_wp2_with (fail)
      refine (CO.out w2 (HB0.out.trans (b2.mono HB0.out.size))).mono ?_
      rintro e w2' ⟨rfl, rfl⟩
      clear CO CS CR
      obtain ⟨b11, hb11⟩ : ∃ b11, w2.heap.size = b11 := ⟨_, rfl⟩
      obtain ⟨W3, hW3⟩ : ∃ W3, W3 = w2.alloc (.cells #[.int .i64 0, .slice none 0 0] 30) := ⟨_, rfl⟩
      have b23 : Below w2.heap.size w2 W3 := by rw [hW3]; exact (Below.refl _ _).alloc (Nat.le_refl _) _
      have hx3 : RBx W3 b11 0 (.slice none 0 0) := by rw [hW3, ← hb11]; exact RBx.made w2 0 _ _
      have hbl : W0.heap.size ≤ b11 := by rw [← hb11]; exact b2.size
      have L3 : Hid (LaIn W0 b11 (b11 + 1) 0 (.slice none 0 0) [] none W3) := Lib.hid ⟨hx3, SFam.nil _ _, ⟨rfl, rfl⟩, b2.trans (b23.mono b2.size)⟩
      have HBL := Lib.hid (And.intro hbl (show p + 1 < b11 by have := HPL.out.2; omega))
      have CLA : Hid (∀ W slot j, j < 2 → Below w1.heap.size w1 W → Calls Tryz.prog 59 #[.pointer (some ⟨k, 0, none⟩), .int .i64 id, .agg #[.int .i64 K, .int .i64 M, .int .i64 B], .int .i64 slot, .int .i64 (bayA K M B j)] W (LookTo W (lkM n R id K M B slot (bayA K M B j)))) := Lib.hid fun W slot j hj hW => CLK.out W slot (bayA K M B j) hW (by
        rcases (by omega : j = 0 ∨ j = 1) with rfl | rfl
        · exact hg01.1
        · exact hg01.2)
      clear b23 hx3 hbl b2 hg01 CLK
      go_upto_region 6 with (fail)
      rw [show w2.alloc (.cells #[.int .i64 0, .slice none 0 0] 30) = W3 from hW3.symm]
      clear hW3 hb11
      go_wp2_with (fail)
      go_loopw [12, 14, 16, 17, 18, 19, 20, 21, 40] (fun f _ _ _ _ _ _ _ t wr => ∃ (i : Nat) (best : Option RecM) (q : Int) (v : Value) (ll : List St), i ≤ l.length ∧ t = .int .i64 (i : Int) ∧ f = .bool best.isSome ∧ Hid (LaIn W0 b11 (b11 + 1) q v ll best wr ∧ best = (l.take i).foldl (slotM n R id K M B) none)) (fun _ _ _ _ _ _ _ _ t _ => l.length - (RowKit.intOf t).toNat)
      case atStart => exact ⟨0, none, 0, _, [], Nat.zero_le _, rfl, rfl, Lib.hid ⟨L3.out, rfl⟩⟩
      case round =>
        clear L3
        obtain ⟨i, best, q, v, ll, hi, rfl, rfl, hH⟩ := hrel
        rename World => wr
        by_cases hlt : i < l.length
        · have y0 : (i : Int) < (l.length : Int) := by omega
          have hB1 : Below w1.heap.size w1 wr := HB0.out.trans (hH.out.1.w.mono HB0.out.size)
          obtain ⟨cb, co, rfl, hcx⟩ := HIT.out wr hB1 i hlt
          have HBS := Lib.hid (best_succ n R id K M B l hlt)
          obtain ⟨x, hx⟩ : ∃ x, l[i] = x := ⟨_, rfl⟩
          rw [hx] at hcx HBS
          have cBy := bays_any K M B wr
          obtain ⟨y1, y2, y3⟩ := BX.out wr hH.out.1.w
          clear hx hB1
          go_wp2_with (fail)
          refine cBy.mono ?_
          rintro e w5 ⟨v5, rfl, o5, b5⟩
          obtain ⟨x5, c5, hf5⟩ := o5.reads.form
          rw [show ([gHead K M B 0, gHead K M B 1].map (Value.int .i64)).length = 2 from rfl] at hf5
          subst hf5
          obtain ⟨g5, cap5, hv5, hg5b, hg5l⟩ := o5.form (by simp)
          injection hv5 with z1 z2 z3
          subst z1
          have hcell : Hid (∀ (W : World) (j : Nat), j < 2 → W.heap[g5]? = w5.heap[g5]? → W.cell? ⟨g5, j, none⟩ = some (.int .i64 (bayA K M B j))) := Lib.hid fun W j hj hW => by
            rw [cell_of_heap hW j, o5.cell (by simpa using hj)]
            rcases (by omega : j = 0 ∨ j = 1) with rfl | rfl <;> rfl
          have H5 := Lib.hid (hH.out.1.after b5)
          have HG5 := Lib.hid (And.intro (show b11 < g5 by have := hH.out.1.x.lt; omega) hg5l)
          have HBE := Lib.hid hH.out.2
          clear y1 y2 y3 z2 z3 o5 b5 hg5b hg5l hH hcx cBy
          go_wp2_with (fail)
          go_loopw [12, 16, 17, 18, 19, 20, 21, 47] (fun f _ _ _ _ _ _ t wr => ∃ (j : Nat) (bst : Option RecM) (q : Int) (v : Value) (ll : List St), j ≤ 2 ∧ t = .int .i64 (j : Int) ∧ f = .bool bst.isSome ∧ Hid (LaIn W0 b11 (b11 + 1) q v ll bst wr ∧ bst = inM n R id K M B x best j ∧ wr.heap[g5]? = w5.heap[g5]?)) (fun _ _ _ _ _ _ _ t _ => 2 - (RowKit.intOf t).toNat)
          case atStart => exact ⟨0, best, q, v, ll, by omega, rfl, rfl, Lib.hid ⟨H5.out, rfl, rfl⟩⟩
          case round =>
            clear H5
            obtain ⟨j, bst, q, v, ll, hj, rfl, rfl, hH⟩ := hrel
            rename World => wr
            by_cases hlt2 : j < 2
            · have y4 : (j : Int) < 2 := by omega
              have hc := hcell.out wr j hlt2 hH.out.2.2
              obtain ⟨y1, y2, y3⟩ := BX.out wr hH.out.1.w
              have cl := CLA.out wr x j hlt2 (HB0.out.trans (hH.out.1.w.mono HB0.out.size))
              have hsm := lk_small n R id K M B x (bayA K M B j)
              have hin := inM_succ n R id K M B x best j
              unfold bayM candM at hin
              rw [← hH.out.2.1] at hin
              obtain ⟨Z, hZ⟩ : ∃ Z, lkM n R id K M B x (bayA K M B j) = Z := ⟨_, rfl⟩
              rw [hZ] at cl hsm hin
              obtain ⟨zs, zb, zo⟩ := Z
              have HSM := Lib.hid hsm
              have HIN := Lib.hid hin
              clear hZ hsm hin
              go_wp2_with (fail)
              refine cl.mono ?_
              rintro e w6 ⟨v6, rfl, o6, b6⟩
              obtain ⟨x6, c6, hf6⟩ := o6.reads.form
              rw [show (tx zb).length = zb.length from List.length_map ..] at hf6
              subst hf6
              have cT := take11_any K M B zs (.slice x6 zb.length c6) zb w6 (by have := HSM.out.1; show zs.size ≤ _; have h2 : zs.size ≤ 120 := this; omega) o6.reads (fun t ht => by have h2 : t.size ≤ 120 := HSM.out.2.1 t ht; omega) (by have h2 : zb.length ≤ 64 := HSM.out.2.2; omega) (fun a n c e => by injection e with e1 e2 e3; rw [← e2, ← e3]; exact o6.capOk)
              have h6 := hH.out.1.after b6
              have hg6 : w6.heap[g5]? = w5.heap[g5]? := (b6.block g5 (by
                have e := hH.out.2.2
                rcases Nat.lt_or_ge g5 wr.heap.size with z | z
                · exact z
                · rw [Array.getElem?_eq_none z, Array.getElem?_eq_getElem HG5.out.2] at e; cases e)).trans hH.out.2.2
              have H6 := Lib.hid (And.intro h6 hg6)
              obtain ⟨y5, y6, y7⟩ := BX.out w6 h6.w
              clear y1 y2 y3 cl o6 b6 hc h6 hg6 hH
              go_wp2_with (fail)
              refine cT.mono ?_
              rintro e w7 ⟨v7, l7, rfl, f7, p7, b7⟩
              clear cT y5 y6 y7
              by_cases htk : takeB K M B zs zb = true
              · simp only [htk, if_true] at p7 ⊢
                have hin := HIN.out
                simp only [htk, if_true] at hin
                obtain ⟨x7, c7, hf7⟩ := f7.isSlice
                subst hf7
                obtain ⟨b20, hb20⟩ : ∃ b20, w7.heap.size = b20 := ⟨_, rfl⟩
                obtain ⟨W8, hW8⟩ : ∃ W8, W8 = w7.alloc (.cells #[.int .i64 (hdQ zs), .slice x7 l7.length c7] 30) := ⟨_, rfl⟩
                have b78 : Below w7.heap.size w7 W8 := by rw [hW8]; exact (Below.refl _ _).alloc (Nat.le_refl _) _
                have b68 := b7.trans (b78.mono b7.size)
                have hx8 : RBx W8 b20 (hdQ zs) (.slice x7 l7.length c7) := by rw [hW8, ← hb20]; exact RBx.made w7 _ _ _
                have h8 := H6.out.1.after b68
                have hg8 : W8.heap[g5]? = w5.heap[g5]? := (b68.block g5 (by
                  have e := H6.out.2
                  rcases Nat.lt_or_ge g5 w6.heap.size with z | z
                  · exact z
                  · rw [Array.getElem?_eq_none z, Array.getElem?_eq_getElem HG5.out.2] at e; cases e)).trans H6.out.2
                have hf8 : SFam W8 w6.heap.size (.slice x7 l7.length c7) l7 := f7.after b78
                have hl6 : b11 < w6.heap.size := H6.out.1.x.lt
                have HN1 : Hid (LaIn W0 b11 (b11 + 1) (hdQ zs) (.slice x7 l7.length c7) l7 (some (hdQ zs, takeL K zs zb)) ((W8.setCell ⟨b11, 0, none⟩ (.int .i64 (hdQ zs))).setCell ⟨b11, 1, none⟩ (.slice x7 l7.length c7)) ∧ ((W8.setCell ⟨b11, 0, none⟩ (.int .i64 (hdQ zs))).setCell ⟨b11, 1, none⟩ (.slice x7 l7.length c7)).heap[g5]? = w5.heap[g5]?) := Lib.hid ⟨⟨h8.x.put _ _, (RBx.drop hf8 hl6 _ _).mono (by omega), ⟨rfl, p7⟩, put_below h8.w (by have := HBL.out.1; omega) _ _⟩, (put_heap W8 b11 _ _ (by have := HG5.out.1; omega)).trans hg8⟩
                have HN0 := Lib.hid (And.intro h8 hg8)
                have HIN2 := Lib.hid hin
                obtain ⟨s0, s1, _, _, _⟩ := hx8
                obtain ⟨t0, t1, t2, t3, _⟩ := h8.x
                have HRB := Lib.hid h8.r
                clear htk hin p7 f7 b7 b78 b68 H6 hf8 hg8 hl6 h8 HIN
                by_cases hbs : bst = none
                · subst hbs
                  have HE : Hid (inM n R id K M B x best (j + 1) = some (hdQ zs, takeL K zs zb)) := Lib.hid HIN2.out
                  clear HIN2 HN0 HRB
                  go_upto_region 15 with (fail)
                  rw [show w7.alloc (.cells #[.int .i64 (hdQ zs), .slice x7 l7.length c7] 30) = W8 from hW8.symm]
                  clear hW8 hb20
                  go_wp2_with (fail)
                  go_roundw
                  case rel => exact ⟨j + 1, some (hdQ zs, takeL K zs zb), hdQ zs, _, l7, by omega, by go_num, rfl, Lib.hid ⟨HN1.out.1, HE.out.symm, HN1.out.2⟩⟩
                  case measure => simp [RowKit.intOf]; omega
                · obtain ⟨bx, rfl⟩ := Option.ne_none_iff_exists'.1 hbs
                  have hqb : q = bx.1 := HRB.out.1
                  by_cases hgt : hdQ zs > q
                  · have HE : Hid (inM n R id K M B x best (j + 1) = some (hdQ zs, takeL K zs zb)) := Lib.hid (by rw [HIN2.out]; show (if hdQ zs > bx.1 then _ else _) = _; rw [← hqb, if_pos hgt])
                    clear HIN2 HN0 HRB hqb hbs
                    simp only [Option.isSome_some]
                    go_upto_region 15 with (fail)
                    rw [show w7.alloc (.cells #[.int .i64 (hdQ zs), .slice x7 l7.length c7] 30) = W8 from hW8.symm]
                    clear hW8 hb20
                    go_wp2_with (fail)
                    go_roundw
                    case rel => exact ⟨j + 1, some (hdQ zs, takeL K zs zb), hdQ zs, _, l7, by omega, by go_num, rfl, Lib.hid ⟨HN1.out.1, HE.out.symm, HN1.out.2⟩⟩
                    case measure => simp [RowKit.intOf]; omega
                  · have HE : Hid (inM n R id K M B x best (j + 1) = some bx) := Lib.hid (by rw [HIN2.out]; show (if hdQ zs > bx.1 then _ else _) = _; rw [← hqb, if_neg hgt])
                    clear HIN2 HN1 HRB hqb hbs
                    simp only [Option.isSome_some]
                    go_upto_region 15 with (fail)
                    rw [show w7.alloc (.cells #[.int .i64 (hdQ zs), .slice x7 l7.length c7] 30) = W8 from hW8.symm]
                    clear hW8 hb20
                    go_wp2_with (fail)
                    go_roundw
                    case rel => exact ⟨j + 1, some bx, q, v, ll, by omega, by go_num, rfl, Lib.hid ⟨HN0.out.1, HE.out.symm, HN0.out.2⟩⟩
                    case measure => simp [RowKit.intOf]; omega
              · have htk2 : takeB K M B zs zb = false := by rw [Bool.not_eq_true] at htk; exact htk
                simp only [htk2, Bool.false_eq_true, if_false] at p7 ⊢
                have hin := HIN.out
                simp only [htk2, Bool.false_eq_true, if_false] at hin
                obtain ⟨W8, hW8⟩ : ∃ W8, W8 = w7.alloc (.cells #[.int .i64 0, v7] 30) := ⟨_, rfl⟩
                have b78 : Below w7.heap.size w7 W8 := by rw [hW8]; exact (Below.refl _ _).alloc (Nat.le_refl _) _
                have b68 := b7.trans (b78.mono b7.size)
                have HN : Hid (LaIn W0 b11 (b11 + 1) q v ll bst W8 ∧ bst = inM n R id K M B x best (j + 1) ∧ W8.heap[g5]? = w5.heap[g5]?) := Lib.hid ⟨H6.out.1.after b68, by rw [hin]; rfl, (b68.block g5 (by
                  have e := H6.out.2
                  rcases Nat.lt_or_ge g5 w6.heap.size with z | z
                  · exact z
                  · rw [Array.getElem?_eq_none z, Array.getElem?_eq_getElem HG5.out.2] at e; cases e)).trans H6.out.2⟩
                obtain ⟨x7, c7, hf7⟩ := f7.isSlice
                subst hf7
                clear htk htk2 hin p7 f7 b7 b78 b68 H6
                go_upto_region 15 with (fail)
                rw [show w7.alloc (.cells #[.int .i64 0, .slice x7 l7.length c7] 30) = W8 from hW8.symm]
                clear hW8
                go_wp2_with (fail)
                go_roundw
                case rel => exact ⟨j + 1, bst, q, v, ll, by omega, by go_num, rfl, HN.out⟩
                case measure => simp [RowKit.intOf]; omega
            · obtain rfl : j = 2 := by omega
              have HN : Hid (LaIn W0 b11 (b11 + 1) q v ll bst wr ∧ bst = (l.take (i + 1)).foldl (slotM n R id K M B) none) := Lib.hid ⟨hH.out.1, by rw [HBS.out, ← HBE.out]; exact hH.out.2.1⟩
              have y4 : ¬ ((2 : Int) < 2) := by omega
              clear hH hlt2
              simp only [show ((2 : Nat) : Int) = 2 from rfl]
              go_wp2_with (fail)
              go_roundw
              case rel => exact ⟨i + 1, bst, q, v, ll, by omega, by go_num, rfl, HN.out⟩
              case measure => simp [RowKit.intOf]; omega
        · obtain rfl : i = l.length := by omega
          have y0 : ¬ ((l.length : Int) < (l.length : Int)) := by omega
          have hbe := hH.out.2
          rw [List.take_length] at hbe
          have HBE : Hid (best = bestM n R id K M B l) := Lib.hid hbe
          have z8 : RBx wr (p + 1) 0 (.slice none 0 0) := HR8.out.below hH.out.1.w HPL.out.2
          obtain ⟨s0, s1, s2, s3, _⟩ := z8
          have z8' := Lib.hid (HR8.out.below hH.out.1.w HPL.out.2)
          obtain ⟨t0, t1, _, _, _⟩ := hH.out.1.x
          have hfin : Hid (SFam ((wr.setCell ⟨p + 1, 0, none⟩ (.int .i64 q)).setCell ⟨p + 1, 1, none⟩ v) w1.heap.size v ll ∧ Below w1.heap.size w1 ((wr.setCell ⟨p + 1, 0, none⟩ (.int .i64 q)).setCell ⟨p + 1, 1, none⟩ v)) := Lib.hid ⟨(RBx.drop hH.out.1.f (by have := HBL.out.2; omega) v q).mono (by have := HBL.out.1; have := HB0.out.size; omega), put_below (HB0.out.trans (hH.out.1.w.mono HB0.out.size)) (by have := HPL.out.1; omega) q v⟩
          have HRR := Lib.hid hH.out.1.r
          obtain ⟨xv, cv, hfv⟩ := hH.out.1.f.isSlice
          subst hfv
          clear hbe hH hlt
          go_wp2_with (fail)
          refine bodyPost_ret (res_last (z8'.out.put q (.slice xv ll.length cv)) rfl rfl rfl) rfl ?_
          rw [← HBE.out]
          exact ⟨q, _, ll, rfl, hfin.out.1, HRR.out, hfin.out.2⟩
  · have hX : laM n R id K M B l = (none, 1) := by unfold laM; rw [if_neg hfr]
    rw [hX]
    clear hX
    by_cases hfit : sfitsB n R id K M B = true
    · have hri : srightB l (n : Int) = false := by
        rw [← Bool.not_eq_true]; exact fun z => hfr ⟨hfit, z⟩
      rw [hfit] at cF
      rw [hri] at CR
      clear hfit hri hfr
      go_enter Tryz.func19, Tryz.ntmps19
      go_wp2_with (fail)
      rw [show (w1.alloc (.cells #[.int .i64 K, .int .i64 M, .int .i64 B] 23)).alloc (.cells #[.int .i64 0, .slice none 0 0] 30) = W0 from hW0.symm]
      clear hW0 hp
      refine cF.mono ?_
      rintro e w2 ⟨rfl, b2⟩
      clear cF y1 y2 y3
      go_wp2_with (fail)
      refine (CS.out w2 (HB0.out.trans (b2.mono HB0.out.size))).mono ?_
      rintro e w2' ⟨rfl, rfl⟩
      go_wp2_with (fail)
      refine (CR.out w2 (HB0.out.trans (b2.mono HB0.out.size))).mono ?_
      rintro e w2' ⟨rfl, rfl⟩
      have z2 := HR8.out.below b2 HPL.out.2
      have hfin := Lib.hid (put_below (HB0.out.trans (b2.mono HB0.out.size)) (by have := HPL.out.1; omega : w1.heap.size ≤ p + 1) 0 (.slice none 0 0))
      have z2' := z2
      obtain ⟨s0, s1, s2, s3, _⟩ := z2
      clear b2
      go_wp2_with (fail)
      refine bodyPost_ret (res_last (z2'.put 0 (.slice none 0 0)) rfl rfl rfl) rfl ?_
      exact ⟨0, _, [], rfl, SFam.nil _ _, ⟨rfl, rfl⟩, hfin.out⟩
    · rw [Bool.not_eq_true] at hfit
      rw [hfit] at cF
      clear hfit hfr
      go_enter Tryz.func19, Tryz.ntmps19
      go_wp2_with (fail)
      rw [show (w1.alloc (.cells #[.int .i64 K, .int .i64 M, .int .i64 B] 23)).alloc (.cells #[.int .i64 0, .slice none 0 0] 30) = W0 from hW0.symm]
      clear hW0 hp
      refine cF.mono ?_
      rintro e w2 ⟨rfl, b2⟩
      clear cF y1 y2 y3
      have z2 := HR8.out.below b2 HPL.out.2
      have hfin := Lib.hid (put_below (HB0.out.trans (b2.mono HB0.out.size)) (by have := HPL.out.1; omega : w1.heap.size ≤ p + 1) 0 (.slice none 0 0))
      have z2' := z2
      obtain ⟨s0, s1, s2, s3, _⟩ := z2
      clear b2
      go_wp2_with (fail)
      refine bodyPost_ret (res_last (z2'.put 0 (.slice none 0 0)) rfl rfl rfl) rfl ?_
      exact ⟨0, _, [], rfl, SFam.nil _ _, ⟨rfl, rfl⟩, hfin.out⟩
end
end Go.Proofs.YtfadglcpapiklaaGreatDoor
