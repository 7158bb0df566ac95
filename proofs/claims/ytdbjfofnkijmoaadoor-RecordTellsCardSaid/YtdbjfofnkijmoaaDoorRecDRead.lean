/- record: the document's read. -/
import Derived.Test.YtdbjfofnkijmoaaDoorRecParse
namespace Go.Proofs.YtdbjfofnkijmoaaDoor
open Go.RowKit
set_option linter.unusedVariables false
set_option linter.unusedSimpArgs false

open Rc
def nts : ByteArray := lineOf (List.replicate 120 0)
theorem nts_size : nts.size = 120 := by unfold nts; rw [lineOf_size]; simp
/-- What the document takes a head as. -/
structure GR (w : World) (K M B : Int) (h : ByteArray) (q : Int) (v : Value) (c : Int) (l : List St) (w' : World) : Prop where
  t : headB K M B h = true → q = hdQ h ∧ c = hdC h ∧ l.map St.n = (hdS h).map St.n ∧ ∀ s ∈ l, (s.d.length : Int) = K
  f : SFam w' w.heap.size v l
  z : ∀ s ∈ l, s.d.length ≤ 9 ∧ ∀ t ∈ s.d, t.size = 120
  n : l.length ≤ 16
  b : Below w.heap.size w w'
def GivesR (w : World) (K M B : Int) (h : ByteArray) (e : Ending) (w' : World) : Prop :=
  ∃ q v c l, e = .returned (.tuple #[.agg #[.int .i64 q, v], .int .i64 c, .bool (headB K M B h)]) ∧ GR w K M B h q v c l w'
theorem res_read {tm : Array Value} {W : World} {b : Nat} {q : Int} {v x y : Value} (h : RBx W b q v) (h4 : tm.getD 4 undef = .pointer (some ⟨b, 0, none⟩)) (h5 : tm.getD 5 undef = x) (h6 : tm.getD 6 undef = y) :
    (results Tryd.f31 tm).run Tryd.prog W = .ok (.tuple #[.agg #[.int .i64 q, v], x, y]) W := by
  have h4' : tm[4]?.getD undef = .pointer (some ⟨b, 0, none⟩) := by simpa using h4
  have h5' : tm[5]?.getD undef = x := by simpa using h5
  have h6' : tm[6]?.getD undef = y := by simpa using h6
  simp [results, Tryd.results31, go_sem, h4', h5', h6', h.c0, h.c1]
/-- The stripes of k rounds. -/
structure Lk (q : RS) (m k : Nat) (l : List St) : Prop where
  n : l.map St.n = (rdS q k).map St.n
  d : ∀ s ∈ l, s.d = List.replicate m nts
theorem Lk.len {q : RS} {m k : Nat} {l : List St} (h : Lk q m k l) : l.length = k := by have := congrArg List.length h.n; simpa [rdS_len] using this
theorem Lk.z {q : RS} {m k : Nat} {l : List St} (h : Lk q m k l) (hm : m ≤ 9) : ∀ s ∈ l, s.d.length ≤ 9 ∧ ∀ t ∈ s.d, t.size = 120 := fun s hs => by
  rw [h.d s hs]
  exact ⟨by simpa using hm, fun t ht => by rw [(List.mem_replicate.1 ht).2]; exact nts_size⟩
theorem Lk.push {q : RS} {m k : Nat} {l : List St} (h : Lk q m k l) (v : Value) : Lk q m (k + 1) (l ++ [⟨((rNum (rdTo q k) 1 : Nat) : Int), List.replicate m nts, v⟩]) := by
  refine ⟨by rw [rdS_succ, List.map_append, List.map_append, h.n]; rfl, fun s hs => ?_⟩
  rcases List.mem_append.1 hs with hs | hs
  · exact h.d s hs
  · rw [List.mem_singleton.1 hs]
theorem read_head {K M B : Int} {h : ByteArray} {N m k : Nat} {l : List St} (hN : hdK h = N) (hm : min K.toNat 9 = m) (hk : k ≤ N) (hk6 : k ≤ 16) (hnot : ¬ (k < N ∧ k < 16)) (L : Lk (hd3 h) m k l) :
    headB K M B h = (decide (hdW h = markS) && (decide (N ≤ 16) && ((!(rNumR (rdTo (hd3 h) k) 4).b && zeroB (rNumR (rdTo (hd3 h) k) 4).s) && rightB K M B (hdQ h) l))) := by
  by_cases h16 : N ≤ 16
  · obtain rfl : k = N := by omega
    have e1 : rNumR (rdTo (hd3 h) k) 4 = hdE h := by rw [hdE, hN]
    have e2 : ordB K M B (hdQ h) l = ordB K M B (hdQ h) (hdS h) := ordB_nums (by rw [L.n, hdS, hN])
    have e3 : rightB K M B (hdQ h) l = ordB K M B (hdQ h) (hdS h) := by
      unfold rightB
      rw [e2]
      cases ho : ordB K M B (hdQ h) (hdS h) with
      | false => rfl
      | true =>
        rw [Bool.true_and, List.all_eq_true]
        intro s hs
        have hg : gR K M B = true := by unfold ordB at ho; simp only [Bool.and_eq_true] at ho; exact ho.1
        have hK := gR_true hg
        unfold stB txtB
        rw [L.d s hs, List.length_replicate]
        simp only [Bool.and_eq_true, beq_iff_eq, List.all_eq_true]
        refine ⟨by omega, fun t ht => ?_⟩
        rw [(List.mem_replicate.1 ht).2, nts_size]; rfl
    rw [e1, e3, decide_eq_true h16, Bool.true_and]
    rfl
  · rw [headB_many (by omega), decide_eq_false h16]; simp
theorem read_true {K M B : Int} {h : ByteArray} {N m k : Nat} {l : List St} (hN : hdK h = N) (hm : min K.toNat 9 = m) (hk : k ≤ N) (hk6 : k ≤ 16) (hnot : ¬ (k < N ∧ k < 16)) (L : Lk (hd3 h) m k l) (ht : headB K M B h = true) :
    ((rNum (rdTo (hd3 h) k) 4 : Nat) : Int) = hdC h ∧ l.map St.n = (hdS h).map St.n ∧ ∀ s ∈ l, (s.d.length : Int) = K := by
  have h16 : N ≤ 16 := by
    rcases Nat.lt_or_ge 16 N with h1 | h1
    · rw [headB_many (by omega)] at ht; cases ht
    · exact h1
  obtain rfl : k = N := by omega
  refine ⟨by rw [hdC, hN], by rw [L.n, hdS, hN], fun s hs => ?_⟩
  have hg : gR K M B = true := by unfold headB ordB at ht; simp only [Bool.and_eq_true] at ht; exact ht.2.2.1
  have hK := gR_true hg
  rw [L.d s hs, List.length_replicate]; omega
/-- What holds ahead of a round. -/
structure DIn (w : World) (p x : Nat) (K M B : Int) (h : ByteArray) (m k : Nat) (wr : World) (v : Value) (l : List St) : Prop where
  g : GBx wr p K M B
  z : RBx wr (p + 1) 0 (.slice none 0 0)
  r : RdAt wr (p + 1 + 1) (rdTo (hd3 h) k).s (rdTo (hd3 h) k).b
  o : RBx wr x (hdQ h) v
  f : SFam wr (x + 1) v l
  l : Lk (hd3 h) m k l
  b : Below p w wr
/-- And ahead of a round within. -/
structure EIn (w : World) (p x y : Nat) (K M B : Int) (q : RS) (hq n : Int) (wr : World) (v : Value) (l : List St) (j : Nat) (u : Value) : Prop where
  g : GBx wr p K M B
  z : RBx wr (p + 1) 0 (.slice none 0 0)
  r : RdAt wr (p + 1 + 1) q.s q.b
  o : RBx wr x hq v
  f : SFam wr (x + 1) v l
  s : RBx wr y n u
  d : Own wr (y + 1) 9 u ((List.replicate j nts).map .string)
  b : Below p w wr
set_option maxRecDepth 100000 in
set_option maxHeartbeats 4000000 in
theorem rread_any (K M B : Int) (h : ByteArray) (w : World) (hs : h.size ≤ 140737488355328) :
    Calls Tryd.prog 31 #[.agg #[.int .i64 K, .int .i64 M, .int .i64 B], .string h] w (GivesR w K M B h) := by
  obtain ⟨p, hp⟩ : ∃ p, w.heap.size = p := ⟨_, rfl⟩
  have tq := Lib.hid (mark_eq h)
  go_enter Tryd.func31, Tryd.ntmps31
  go_wp2_with (fail)
  refine (rnew_any h _).mono ?_
  rintro e w1 ⟨rfl, rfl⟩
  have g0 := GBx.made w K M B 23
  have b0 : Below p w (w.alloc (.cells #[.int .i64 K, .int .i64 M, .int .i64 B] 23)) := (Below.refl _ _).alloc (by omega) _
  have s0 : (w.alloc (.cells #[.int .i64 K, .int .i64 M, .int .i64 B] 23)).heap.size = p + 1 := by simp [hp]
  rw [hp] at g0
  replace hp := Lib.hid hp
  generalize w.alloc (.cells #[.int .i64 K, .int .i64 M, .int .i64 B] 23) = wa at *
  have z1 := RBx.made wa 0 (.slice none 0 0) 26
  have bb : Below (p + 1) wa (wa.alloc (.cells #[.int .i64 0, .slice none 0 0] 26)) := (Below.refl _ _).alloc (by omega) _
  have s1 : (wa.alloc (.cells #[.int .i64 0, .slice none 0 0] 26)).heap.size = p + 1 + 1 := by simp [s0]
  rw [s0] at z1
  have g1 := g0.below bb (by omega)
  have b1 := b0.trans (bb.mono (by omega))
  clear s0 bb g0 b0
  generalize wa.alloc (.cells #[.int .i64 0, .slice none 0 0] 26) = wb at *
  have r2 := RdAt.made wb h 96
  have bb : Below (p + 1 + 1) wb (wb.alloc (.cells #[.string h, .bool false] 96)) := (Below.refl _ _).alloc (by omega) _
  have s2 : (wb.alloc (.cells #[.string h, .bool false] 96)).heap.size = p + 1 + 1 + 1 := by simp [s1]
  rw [s1] at r2
  have g2 := g1.below bb (by omega)
  have z2 := z1.below bb (by omega)
  have b2 := b1.trans (bb.mono (by omega))
  clear bb g1 z1 b1
  go_wp2_with (fail)
  generalize wb.alloc (.cells #[.string h, .bool false] 96) = w2 at *
  clear s1
  refine (rrtxt_q (p + 1 + 1) ⟨h, false⟩ 4 _ r2 hs).mono ?_
  rintro e w3 ⟨rfl, r3⟩
  have g3 := g2.rd r3 (by omega)
  have z3 := z2.rd r3 (by omega)
  have b3 := b2.trans (r3.keep p (by omega) (by omega))
  have R3 := r3.r
  have s3 := r3.size
  clear g2 z2 b2 r2 r3
  rw [s2] at s3
  clear s2
  have hq1 : (hd1 h).s.size ≤ 140737488355328 := Nat.le_trans (rTxtR_size _ _) hs
  change RdAt w3 (p + 1 + 1) (hd1 h).s (hd1 h).b at R3
  obtain ⟨x, hx⟩ : ∃ x, w3.heap.size = x := ⟨_, rfl⟩
  have hx3 : p + 3 ≤ x := by omega
  go_wp2_with (fail)
  have x4 := RBx.made w3 0 (.slice none 0 0) 26
  have bb : Below x w3 (w3.alloc (.cells #[.int .i64 0, .slice none 0 0] 26)) := (Below.refl _ _).alloc (by omega) _
  rw [hx] at x4
  have g4 := g3.below bb (by omega)
  have z4 := z3.below bb (by omega)
  have R4 := R3.below bb (by omega)
  have b4 := b3.trans (bb.mono (by omega))
  clear g3 z3 b3 R3 bb hx s3
  generalize w3.alloc (.cells #[.int .i64 0, .slice none 0 0] 26) = w4 at *
  clear w3 wa wb w2
  refine (rrnum_q (p + 1 + 1) (hd1 h) 6 w4 R4 hq1).mono ?_
  rintro e w5 ⟨rfl, r5⟩
  have g5 := g4.rd r5 (by omega)
  have z5 := z4.rd r5 (by omega)
  have x5 := x4.rd r5 (by omega)
  have b5 := b4.trans (r5.keep p (by omega) (by have := g4.lt; omega))
  have R5 := r5.r
  have hq2 : (hd2 h).s.size ≤ 140737488355328 := Nat.le_trans (rNumR_size _ _) hq1
  change RdAt w5 (p + 1 + 1) (hd2 h).s (hd2 h).b at R5
  rw [show ((rNum (hd1 h) 6 : Nat) : Int) = hdQ h from rfl]
  clear g4 z4 x4 b4 R4 r5
  have e0 := x5.c0
  have e1 := x5.f0
  go_wp2_with (fail)
  have x6 := x5.set0 (hdQ h)
  have bb : Below x w5 (w5.setCell ⟨x, 0, none⟩ (.int .i64 (hdQ h))) := (Below.refl x w5).setCell (p := ⟨x, 0, none⟩) (Nat.le_refl x) _
  have g6 := g5.below bb (by omega)
  have z6 := z5.below bb (by omega)
  have R6 := R5.below bb (by omega)
  have b6 := b5.trans (bb.mono (by omega))
  clear g5 z5 b5 R5 bb x5 e0 e1
  generalize w5.setCell ⟨x, 0, none⟩ (.int .i64 (hdQ h)) = w6 at *
  clear w5 w4
  refine (rrnum_q (p + 1 + 1) (hd2 h) 1 w6 R6 hq2).mono ?_
  rintro e w7 ⟨rfl, r7⟩
  obtain ⟨m, hm⟩ : ∃ m, min K.toNat 9 = m := ⟨_, rfl⟩
  have hm9 : m ≤ 9 := by omega
  have hq3 : (hd3 h).s.size ≤ 140737488355328 := Nat.le_trans (rNumR_size _ _) hq2
  have hI0 : Hid (DIn w p x K M B h m 0 w7 (.slice none 0 0) []) := Lib.hid ⟨g6.rd r7 (by omega), z6.rd r7 (by omega), r7.r, x6.rd r7 (by omega), SFam.nil _ _, ⟨rfl, fun s hs => by cases hs⟩, b6.trans (r7.keep p (by omega) (by have := g6.lt; omega))⟩
  have hqk : ∀ k, (rdTo (hd3 h) k).s.size ≤ 140737488355328 := fun k => Nat.le_trans (rdTo_size _ k) hq3
  have hN7 := hdK_lt h
  rw [show rNum (hd2 h) 1 = hdK h from rfl]
  obtain ⟨N, hN⟩ : ∃ N, hdK h = N := ⟨_, rfl⟩
  rw [hN] at hN7 ⊢
  replace hN := Lib.hid hN
  replace hm := Lib.hid hm
  clear g6 z6 R6 b6 r7 hq3 x6 hq1 hq2
  go_wp2_with (fail)
  go_loopw [11] (fun t wr => ∃ k : Nat, k ≤ N ∧ k ≤ 16 ∧ t = .int .i64 (k : Int) ∧ ∃ v l, DIn w p x K M B h m k wr v l) (fun t _ => N - (intOf t).toNat)
  case atStart => exact ⟨0, by omega, by omega, rfl, _, _, hI0.out⟩
  case round =>
    obtain ⟨k, hk, hk6, rfl, v, l, hI⟩ := hrel
    rename World => wr
    clear hI0
    obtain ⟨g0, z0, r0, o0, f0, l0, b0⟩ := hI
    have hql := hqk k
    have hlen := l0.len
    obtain ⟨va, vc, ev⟩ := f0.o.isSlice
    subst ev
    by_cases hlt : k < N ∧ k < 16
    · have y1 : (k : Int) < (N : Int) := by omega
      have y2 : (k : Int) < 16 := by omega
      have hL : Hid (∀ v, Lk (hd3 h) m (k + 1) (l ++ [⟨((rNum (rdTo (hd3 h) k) 1 : Nat) : Int), List.replicate m nts, v⟩])) := Lib.hid fun v => l0.push v
      replace l0 := Lib.hid l0
      have hR : Hid (rdTo (hd3 h) (k + 1) = rNumR (rdTo (hd3 h) k) 1) := Lib.hid rfl
      generalize rdTo (hd3 h) k = q at *
      replace hlen := Lib.hid hlen
      replace hlt := Lib.hid hlt
      go_wp2_with (fail)
      refine (rrnum_q (p + 1 + 1) q 1 wr r0 hql).mono ?_
      rintro e w1 ⟨rfl, r1⟩
      replace g0 := g0.rd r1 (by omega)
      replace z0 := z0.rd r1 (by omega)
      replace o0 := o0.rd r1 (by omega)
      replace f0 : SFam w1 (x + 1) (.slice va l.length vc) l := f0.heap fun j h1 h2 => r1.oth j h2 (by omega)
      replace b0 := b0.trans (r1.keep p (by omega) (by have := r1.size; have := b0.size; have := hp.out; omega))
      have R1 := r1.r
      rw [← hR.out] at R1
      clear r1 r0
      generalize ((rNum q 1 : Nat) : Int) = n at *
      obtain ⟨y, hy⟩ : ∃ y, w1.heap.size = y := ⟨_, rfl⟩
      have hxy : x < y := by have := o0.lt; omega
      have s5 := RBx.made w1 n (.slice none 0 0) 52
      have bb : Below y w1 (w1.alloc (.cells #[.int .i64 n, .slice none 0 0] 52)) := (Below.refl _ _).alloc (by omega) _
      rw [hy] at s5
      have hF0 : Hid (SFam w1 (x + 1) (.slice va l.length vc) l) := Lib.hid f0
      have hI1 : Hid (EIn w p x y K M B (rdTo (hd3 h) (k + 1)) (hdQ h) n (w1.alloc (.cells #[.int .i64 n, .slice none 0 0] 52)) (.slice va l.length vc) l 0 (.slice none 0 0)) :=
        Lib.hid ⟨g0.below bb (by omega), z0.below bb (by omega), R1.below bb (by omega), o0.below bb (by omega), f0.after (by rw [hy]; exact bb), s5, Own.nil _ _ _, b0.trans (bb.mono (by omega))⟩
      clear g0 z0 R1 o0 f0 s5 bb b0
      go_wp2_with (fail)
      replace hy := Lib.hid hy
      generalize w1.alloc (.cells #[.int .i64 n, .slice none 0 0] 52) = w2 at *
      go_loopw [14] (fun t wr => ∃ j : Nat, j ≤ m ∧ t = .int .i64 (j : Int) ∧ ∃ u, EIn w p x y K M B (rdTo (hd3 h) (k + 1)) (hdQ h) n wr (.slice va l.length vc) l j u) (fun t _ => m - (intOf t).toNat)
      case atStart => exact ⟨0, by omega, rfl, _, hI1.out⟩
      case round =>
        obtain ⟨j, hj, rfl, u, hI⟩ := hrel
        rename World => wr
        clear hI1
        obtain ⟨g0, z0, r0, o0, f0, s0, d0, b0⟩ := hI
        obtain ⟨ua, uc, ev⟩ := d0.isSlice
        rw [List.length_map, List.length_replicate] at ev
        subst ev
        by_cases hjm : j < m
        · have hmo := hm.out
          have y3 : (j : Int) < K := by omega
          have y4 : (j : Int) < 9 := by omega
          clear hmo
          have g1 : GBx wr.drew p K M B := g0.heap rfl (Nat.le_refl _)
          have z1 : RBx wr.drew (p + 1) 0 (.slice none 0 0) := z0.heap rfl (Nat.le_refl _)
          have r1 : RdAt wr.drew (p + 1 + 1) (rdTo (hd3 h) (k + 1)).s (rdTo (hd3 h) (k + 1)).b := r0.hp rfl (Nat.le_refl _)
          have o1 : RBx wr.drew x (hdQ h) (.slice va l.length vc) := o0.heap rfl (Nat.le_refl _)
          have f1 : SFam wr.drew (x + 1) (.slice va l.length vc) l := f0.heap fun _ _ _ => rfl
          have s1 : RBx wr.drew y n (.slice ua j uc) := s0.heap rfl (Nat.le_refl _)
          have d1 := d0.drew
          have b1 : Below p w wr.drew := b0.trans ⟨rfl, rfl, rfl, Nat.le_refl _, fun _ _ => rfl⟩
          have c00 := g0.c0
          clear z0 r0 o0 f0 s0 d0 b0
          obtain ⟨wm, hmk, hrow, hbm, hsm⟩ := BRow.make_run wr.drew 120 (by decide)
          obtain ⟨gm, hgm⟩ : ∃ g, wr.drew.heap.size = g := ⟨_, rfl⟩
          rw [hgm] at hmk hrow
          replace hgm := Lib.hid hgm
          replace hmk : (Instr.makeSlice 45 (.int .i64 120) (.int .i64 120)).run Tryd.prog wr.drew = .ok (.slice (some ⟨gm, 0, none⟩) 120 120) wm := hmk
          have hst := hrow.str 120 120 (by simp)
          rw [show lineOf (List.replicate 120 0) = nts from rfl] at hst
          obtain ⟨i0, hi, hz0, hz1, hz2⟩ := info_parts Tryd.infoT
          have dm := d1.after hbm
          obtain ⟨v', w7, hap, d7, b7, k7, v7⟩ := dm.pushA (P := Tryd.prog) (T := 27) Tryd.underlying27 hi hz0 hz1 hz2 rfl (.string nts) rfl (by have := s1.lt; rw [hsm]; omega) (by simp; omega) (by simp; omega)
          obtain ⟨ua', uc', ev⟩ := d7.isSlice
          rw [List.length_append, List.length_map, List.length_replicate, List.length_singleton] at ev
          subst ev
          have sm := s1.below hbm s1.lt
          have cs1 := s1.c1
          have csm := sm.c1
          have csa := cell_alloc_l (.cells #[.string nts] 9) csm
          have s7 : RBx w7 y n (.slice ua j uc) := sm.heap (k7 y sm.lt (fun e => by have := (dm.o.lt y e).1; omega)) b7.size
          have cs7 := s7.c1
          have ds7 := s7.f1
          have eh : Hid (∀ i, i < wr.drew.heap.size → i < y → (w7.setCell ⟨y, 1, none⟩ (.slice ua' (j + 1) uc')).heap[i]? = wr.drew.heap[i]?) := Lib.hid fun i h1 h2 => by
            rw [Below.heap_setCell _ _ _ _ (by show i ≠ y; omega), ← hbm.block i h1]
            exact k7 i (by rw [hsm]; omega) (fun e => by have := (dm.o.lt i e).1; omega)
          have hsz : Hid (wr.drew.heap.size ≤ (w7.setCell ⟨y, 1, none⟩ (.slice ua' (j + 1) uc')).heap.size) := Lib.hid (by have := b7.size; simp at this ⊢; rw [hsm] at this; simp at this; omega)
          have hbb : Hid (Below p w (w7.setCell ⟨y, 1, none⟩ (.slice ua' (j + 1) uc'))) := Lib.hid (((b1.trans (hbm.mono (by have := g1.lt; omega))).trans (b7.mono (by omega))).setCell (p := ⟨y, 1, none⟩) (by show p ≤ y; omega) _)
          replace s7 := Lib.hid s7
          replace d7 := Lib.hid d7
          replace sm := Lib.hid sm
          clear hsm hz0 hz1 hz2 hi i0 dm d1 v7 hrow
          go_wp2_with (fail)
          go_region_law (refine step_append_run hap _ _ rfl rfl rfl (by simp [Act.eval, Act.put]) (by simp [Act.eval, Act.put]) ?_)
          all_goals
            go_wp2_with (fail)
            go_roundw
            case rel =>
              have hl1 := g1.lt
              have hl2 := z1.lt
              have hl3 := r1.lt
              have hl4 := o1.lt
              refine ⟨j + 1, by omega, by go_num, .slice ua' (j + 1) uc', ?_⟩
              refine ⟨g1.heap (eh.out _ hl1 (by omega)) hsz.out, z1.heap (eh.out _ hl2 (by omega)) hsz.out, r1.hp (eh.out _ hl3 (by omega)) hsz.out, o1.heap (eh.out _ hl4 (by omega)) hsz.out, ?_, s7.out.set1 _, ?_, hbb.out⟩
              · exact f1.heapO fun u hu i hi => eh.out i (f1.old u hu i hi).2 (by have := (hF0.out.old u hu i hi).2; have := hy.out; omega)
              · have := d7.out.setOther (a := ⟨y, 1, none⟩) (fun e => by have := (d7.out.o.lt y e).1; omega) (.slice ua' (j + 1) uc')
                rw [List.replicate_succ', List.map_append]
                exact this
            case measure => simp [intOf]; omega
        · obtain rfl : j = m := by omega
          have hcase : (¬ (j : Int) < K) ∨ ((j : Int) < K ∧ ¬ (j : Int) < 9) := by have := hm.out; omega
          have hl0 := hlen.out
          obtain ⟨i2, hi, hz, hs2, hb⟩ : ∃ i, Tryd.prog.info? 52 = some i ∧ i.zero = some (.agg #[.int .i64 0, .slice none 0 0]) ∧ i.size = 2 ∧ i.bytes = 32 := info_parts (by kernel_rfl)
          obtain ⟨v', w7, hap, o7, b7, k7, v7⟩ := f0.o.push (P := Tryd.prog) (S := 24) Tryd.underlying24 hi hz hs2 hb rfl (⟨n, List.replicate j nts, .slice ua j uc⟩ : St) #[.int .i64 n, .slice ua j uc] (by show [Value.int .i64 n, .slice ua j uc] = [.int .i64 n, cell1 (.slice ua j uc)]; rw [cell1_slice]) (by have := o0.lt; omega) (by omega) (by omega)
          have hF7 := Lib.hid (hF0.out.push (C := y + 1) (by have := hy.out; omega) d0 f0 (by have := hy.out; have := s0.lt; omega) o7 k7 v7 (by omega))
          obtain ⟨va', vc', ev⟩ := o7.isSlice
          rw [List.length_append, List.length_singleton] at ev
          subst ev
          have X7 : RBx w7 x (hdQ h) (.slice va l.length vc) := o0.heap (k7 x o0.lt (fun e => by have := (f0.old _ (.inl rfl) x e).1; omega)) b7.size
          have c0 := o0.c1
          have c1 := s0.c0
          have c2 := s0.c1
          have c7 := X7.c1
          have d7 := X7.f1
          have eh : Hid (∀ i, i < wr.heap.size → i < x → (w7.setCell ⟨x, 1, none⟩ (.slice va' (l.length + 1) vc')).heap[i]? = wr.heap[i]?) := Lib.hid fun i h1 h2 => by
            rw [Below.heap_setCell _ _ _ _ (by show i ≠ x; omega)]
            exact k7 i h1 (fun e => by have := (f0.old _ (.inl rfl) i e).1; omega)
          have hsz : Hid (wr.heap.size ≤ (w7.setCell ⟨x, 1, none⟩ (.slice va' (l.length + 1) vc')).heap.size) := Lib.hid (by simpa using b7.size)
          have hbb : Hid (Below p w (w7.setCell ⟨x, 1, none⟩ (.slice va' (l.length + 1) vc'))) := Lib.hid ((b0.trans (b7.mono (by omega))).setCell (p := ⟨x, 1, none⟩) (by show p ≤ x; omega) _)
          have g1 := g0.c0
          have gg := Lib.hid g0
          replace hF7 : Hid (SFam (w7.setCell ⟨x, 1, none⟩ (.slice va' (l.length + 1) vc')) (x + 1) (.slice va' (l.length + 1) vc') (l ++ [⟨n, List.replicate j nts, .slice ua j uc⟩])) := Lib.hid (hF7.out.heap fun i h1 h2 => Below.heap_setCell _ _ _ _ (by show i ≠ x; omega))
          replace X7 := Lib.hid X7
          clear hi hz hs2 hb i2 o7 b7 k7 v7 d0 f0 o0 s0 hl0 b0 g0
          have hfin : Hid (∀ j' : Nat, True) := Lib.hid fun _ => trivial
          rcases hcase with y3 | ⟨y3, y4⟩
          all_goals
            go_wp2_with (at_builtin; refine wpList_append_run hap _ _ rfl rfl rfl rfl rfl ?_)
            go_roundw
            case rel =>
              refine ⟨k + 1, by have := hlt.out; omega, by have := hlt.out; omega, by go_num, .slice va' (l.length + 1) vc', l ++ [⟨n, List.replicate j nts, .slice ua j uc⟩], ?_⟩
              have hl1 := gg.out.lt
              have hl2 := z0.lt
              have hl3 := r0.lt
              exact ⟨gg.out.heap (eh.out _ hl1 (by omega)) hsz.out, z0.heap (eh.out _ hl2 (by omega)) hsz.out, r0.hp (eh.out _ hl3 (by omega)) hsz.out, X7.out.set1 _, hF7.out, hL.out _, hbb.out⟩
            case measure => simp [intOf]; omega
    · have hcase : (¬ (k : Int) < (N : Int)) ∨ ((k : Int) < (N : Int) ∧ ¬ (k : Int) < 16) := by omega
      have hB := Lib.hid (read_head (M := M) (B := B) hN.out hm.out hk hk6 hlt l0)
      have hT : Hid (headB K M B h = true → ((rNum (rdTo (hd3 h) k) 4 : Nat) : Int) = hdC h ∧ l.map St.n = (hdS h).map St.n ∧ ∀ s ∈ l, (s.d.length : Int) = K) := Lib.hid fun ht => read_true hN.out hm.out hk hk6 hlt l0 ht
      have hz9 := l0.z hm9
      have hz : ∀ s ∈ l, s.d.length ≤ 140737488355328 ∧ ∀ t ∈ s.d, t.size ≤ 140737488355328 := fun s hs => ⟨by have := (hz9 s hs).1; omega, fun t ht => by have := (hz9 s hs).2 t ht; omega⟩
      replace hz := Lib.hid hz
      replace hz9 := Lib.hid hz9
      have hqe : (rNumR (rdTo (hd3 h) k) 4).s.size ≤ 140737488355328 := Nat.le_trans (rNumR_size _ _) hql
      have hgo : Hid (∀ b w' v, headB K M B h = b → SFam w' (x + 1) v l → Below p w w' → GivesR w K M B h (.returned (.tuple #[.agg #[.int .i64 (hdQ h), v], .int .i64 ((rNum (rdTo (hd3 h) k) 4 : Nat) : Int), .bool b])) w') := Lib.hid fun b w' v hb hf hbl =>
        ⟨hdQ h, v, _, l, by rw [hb], ⟨fun ht => ⟨rfl, hT.out ht⟩, hf.mono (by rw [hp.out]; omega), hz9.out, by omega, by rw [hp.out]; exact hbl⟩⟩
      have hO := fun W (hw : SReads W (.slice va l.length vc) l) => rright11_any K M B (hdQ h) (.slice va l.length vc) l W hw (by omega)
      have hqs := Lib.hid hql
      clear l0 hlt hql hqk hT hz9 hlen
      have hN16 : (decide ((N : Int) ≤ 16)) = decide (N ≤ 16) := by rw [decide_eq_decide]; omega
      generalize rdTo (hd3 h) k = q at *
      rcases hcase with y1 | ⟨y1, y2⟩
      all_goals
        go_wp2_with (fail)
        refine (rrnum_q (p + 1 + 1) q 4 wr r0 hqs.out).mono ?_
        rintro e w6 ⟨rfl, r6⟩
        have g6 := g0.rd r6 (by omega)
        have z6 := z0.rd r6 (by omega)
        have o6 := o0.rd r6 (by omega)
        have f6 : SFam w6 (x + 1) (.slice va l.length vc) l := f0.heap fun j h1 h2 => r6.oth j h2 (by omega)
        have b6 := b0.trans (r6.keep p (by omega) (by have := g0.lt; omega))
        have R6 := r6.r
        have F6 := f6.reads hz.out
        clear g0 z0 o0 f0 b0 r0 r6
        generalize ((rNum q 4 : Nat) : Int) = C at *
        generalize rNumR q 4 = E at *
        go_wp2_with (fail)
        refine (rends_any (p + 1 + 1) E.s E.b w6 R6 hqe).mono ?_
        rintro e w7 ⟨rfl, rfl⟩
        clear R6
        have e0 := g6.c0
        have e1 := g6.c1
        have e2 := g6.c2
        have e3 := o6.c0
        have e4 := o6.c1
        generalize (!E.b && zeroB E.s) = en at *
        go_wp2_with (fail)
        refine (hO _ F6).mono ?_
        rintro e w8 ⟨rfl, b8⟩
        have z8 := z6.below b8 z6.lt
        have o8 := o6.below b8 o6.lt
        have f8 := f6.after b8
        have b9 := b6.trans (b8.mono (by have := g6.lt; omega))
        clear g6 z6 o6 f6 b6 b8 F6 e0 e1 e2 e3 e4 hO
        have e0 := z8.c0
        have e1 := z8.c1
        have e2 := z8.f0
        have e3 := z8.f1
        have e4 := o8.c0
        have e5 := o8.c1
        generalize rightB K M B (hdQ h) l = ri at *
        have tq' := tq.out
        cases hw : decide (hdW h = markS)
        · rw [hw] at tq' hB
          clear hw
          go_wp2_with (fail)
          refine bodyPost_ret (res_read (z8.put (hdQ h) (.slice va l.length vc)) rfl rfl rfl) rfl ?_
          exact hgo.out _ _ _ hB.out (f8.heap fun j h1 h2 => put_heap _ _ _ _ (by omega)) (put_below b9 (by omega) _ _)
        · rw [hw] at tq' hB
          clear hw
          cases h16 : decide (N ≤ 16)
          · rw [h16] at hN16 hB
            have y16 : ¬ ((N : Int) ≤ 16) := of_decide_eq_false hN16
            clear h16 hN16
            first
              | (exfalso; omega)
              | (go_wp2_with (fail)
                 refine bodyPost_ret (res_read (z8.put (hdQ h) (.slice va l.length vc)) rfl rfl rfl) rfl ?_
                 exact hgo.out _ _ _ hB.out (f8.heap fun j h1 h2 => put_heap _ _ _ _ (by omega)) (put_below b9 (by omega) _ _))
          · rw [h16] at hN16 hB
            have y16 : (N : Int) ≤ 16 := of_decide_eq_true hN16
            clear h16 hN16
            first
              | (exfalso; omega)
              | (cases en
                 all_goals
                   cases ri
                   all_goals
                     go_wp2_with (fail)
                     refine bodyPost_ret (res_read (z8.put (hdQ h) (.slice va l.length vc)) rfl rfl rfl) rfl ?_
                     exact hgo.out _ _ _ hB.out (f8.heap fun j h1 h2 => put_heap _ _ _ _ (by omega)) (put_below b9 (by omega) _ _))
end Go.Proofs.YtdbjfofnkijmoaaDoor
