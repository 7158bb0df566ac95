/- label: the document's Get, walked. -/
import Derived.Test.YtaopknddpagjeaaDoorLabBox
import Derived.Test.YtaopknddpagjeaaDoorLabPut
import Derived.Test.YtaopknddpagjeaaDoorLabGet2
namespace Go.Proofs.YtaopknddpagjeaaDoor
open Go.RowKit
set_option linter.unusedVariables false
set_option linter.unusedSimpArgs false
open Lb

theorem rres_get {tm : Array Value} {W : World} {b : Nat} {x : Lbl} {vs vb vc : Value} {n : Int} (h : LblBox W b x vs vb vc) (h2 : tm.getD 2 undef = .pointer (some ⟨b, 0, none⟩)) (h3 : tm.getD 3 undef = .int .i64 n) :
    (results Tryd.f14 tm).run Tryd.prog W = .ok (.tuple #[x.v vs vb vc, .int .i64 n]) W := by
  have h2' : tm[2]?.getD undef = .pointer (some ⟨b, 0, none⟩) := by simpa using h2
  have h3' : tm[3]?.getD undef = .int .i64 n := by simpa using h3
  simp [results, Tryd.results14, go_sem, h2', h3', h.a.c0, h.a.c1, h.a.c2, h.a.c3, h.a.c4, h.a.c5, h.a.c6, h.a.c7, h.a.c8, Lbl.v]
theorem hd_steps {a0 a1 a2 a3 a4 a5 a6 : RS} {h0 h1 h2 h3 h4 h5 : Int} (e1 : rNumR a0 2 = a1) (e2 : rNumR a1 1 = a2) (e3 : rNumR a2 1 = a3) (e4 : rNumR a3 1 = a4) (e5 : rNumR a4 1 = a5) (e6 : rNumR a5 6 = a6)
    (k0 : ((rNum a0 2 : Nat) : Int) = h0) (k1 : ((rNum a1 1 : Nat) : Int) = h1) (k2 : ((rNum a2 1 : Nat) : Int) = h2) (k3 : ((rNum a3 1 : Nat) : Int) = h3) (k4 : ((rNum a4 1 : Nat) : Int) = h4) (k5 : ((rNum a5 6 : Nat) : Int) = h5) :
    rList hW a0 = [h0, h1, h2, h3, h4, h5] ∧ rListR hW a0 = a6 := by
  subst e1 e2 e3 e4 e5 e6 k0 k1 k2 k3 k4 k5; exact ⟨rfl, rfl⟩
/-- What holds ahead of round k. -/
structure RIn (w : World) (p0 rb lb : Nat) (h0 h1 h2 h3 h4 h5 : Int) (q1 : RS) (k : Nat) (wr : World) (va vb vc : Value) : Prop where
  x : LblBox wr lb ⟨h0, h1, h5, h2, h3, h4, th0 (rList (tW k) q1), th1 (rList (tW k) q1), th2 (rList (tW k) q1)⟩ va vb vc
  o : O3 wr (lb + 1) ⟨h0, h1, h5, h2, h3, h4, th0 (rList (tW k) q1), th1 (rList (tW k) q1), th2 (rList (tW k) q1)⟩ va vb vc
  r : RdAt wr rb (rListR (tW k) q1).s (rListR (tW k) q1).b
  z : LblBox wr p0 noLbl (.slice none 0 0) (.slice none 0 0) (.slice none 0 0)
  b : Below p0 w wr
set_option maxRecDepth 100000 in
set_option maxHeartbeats 3000000 in
theorem rget_any (s : ByteArray) (w : World) (hs : s.size ≤ 140737488355328) : Calls Tryd.prog 14 #[.string s] w (GivesL w (getL s) (getE s)) := by
  obtain ⟨p0, hp0⟩ : ∃ p, w.heap.size = p := ⟨_, rfl⟩
  go_enter Tryd.func14, Tryd.ntmps14
  go_wp2_with (fail)
  refine (rnew_any s _).mono ?_
  rintro e w1 ⟨rfl, rfl⟩
  have z1 := LblBox.made w 26
  have b1 : Below p0 w (w.alloc (.cells #[.int .i64 0, .int .i64 0, .int .i64 0, .int .i64 0, .int .i64 0, .int .i64 0, .slice none 0 0, .slice none 0 0, .slice none 0 0] 26)) := (Below.refl _ _).alloc (by omega) _
  have s1 : (w.alloc (.cells #[.int .i64 0, .int .i64 0, .int .i64 0, .int .i64 0, .int .i64 0, .int .i64 0, .slice none 0 0, .slice none 0 0, .slice none 0 0] 26)).heap.size = p0 + 1 := by simp [hp0]
  rw [hp0] at z1
  replace hp0 := Lib.hid hp0
  generalize w.alloc (.cells #[.int .i64 0, .int .i64 0, .int .i64 0, .int .i64 0, .int .i64 0, .int .i64 0, .slice none 0 0, .slice none 0 0, .slice none 0 0] 26) = wa at *
  have r2 := RdAt.made wa s 94
  have bb : Below (p0 + 1) wa (wa.alloc (.cells #[.string s, .bool false] 94)) := (Below.refl _ _).alloc (by omega) _
  have z2 := z1.below bb (by omega)
  have b2 := b1.trans (bb.mono (by omega))
  have s2 : (wa.alloc (.cells #[.string s, .bool false] 94)).heap.size = p0 + 1 + 1 := by simp [s1]
  rw [s1] at r2
  go_wp2_with (fail)
  generalize wa.alloc (.cells #[.string s, .bool false] 94) = w2 at *
  clear b1 bb z1
  refine (rrtxt_q (p0 + 1) ⟨s, false⟩ 4 _ r2 hs).mono ?_
  rintro e w3 ⟨rfl, r3⟩
  have z3 := z2.rd r3 (by omega)
  have b3 := b2.trans (r3.keep p0 (by omega) (by omega))
  have R3 := r3.r
  have s3 := r3.size
  clear z2 b2 r2 r3
  clear s1 wa
  rw [s2] at s3
  clear s2 w2
  go_wp2_with (fail)
  have x4 := LblBox.made w3 26
  have bz : Below w3.heap.size w3 (w3.alloc (.cells #[.int .i64 0, .int .i64 0, .int .i64 0, .int .i64 0, .int .i64 0, .int .i64 0, .slice none 0 0, .slice none 0 0, .slice none 0 0] 26)) := (Below.refl _ _).alloc (Nat.le_refl _) _
  have z4 := z3.below bz (by omega)
  have R4 := R3.below bz R3.lt
  have b4 := b3.trans (bz.mono (by omega))
  clear bz z3 R3 b3
  generalize w3.alloc (.cells #[.int .i64 0, .int .i64 0, .int .i64 0, .int .i64 0, .int .i64 0, .int .i64 0, .slice none 0 0, .slice none 0 0, .slice none 0 0] 26) = w4 at *
  obtain ⟨lb, hlb⟩ : ∃ q, w3.heap.size = q := ⟨_, rfl⟩
  rw [hlb] at x4 s3 ⊢
  clear hlb w3
  change RdAt w4 (p0 + 1) (q0 s).s (q0 s).b at R4
  have hq0 : (q0 s).s.size ≤ 140737488355328 := Nat.le_trans (rTxtR_size _ _) hs
  obtain ⟨a0, ha0⟩ : ∃ q, q0 s = q := ⟨_, rfl⟩
  rw [ha0] at R4 hq0
  replace ha0 := Lib.hid ha0
  refine (rrnum_q (p0 + 1) a0 2 w4 R4 hq0).mono ?_
  rintro e u4 ⟨rfl, r4⟩
  have y4 := x4.rd r4 (by omega)
  have zu4 := z4.rd r4 (by omega)
  have bu4 := b4.trans (r4.keep p0 (by omega) (by have := z4.a.lt; omega))
  have Ru4 := r4.r
  have hq1 : (rNumR a0 2).s.size ≤ 140737488355328 := Nat.le_trans (rNumR_size _ _) hq0
  obtain ⟨h0, hh0⟩ : ∃ v, ((rNum a0 2 : Nat) : Int) = v := ⟨_, rfl⟩
  rw [hh0]
  replace hh0 := Lib.hid hh0
  obtain ⟨a1, ha1⟩ : ∃ v, rNumR a0 2 = v := ⟨_, rfl⟩
  rw [ha1] at Ru4 hq1
  replace ha1 := Lib.hid ha1
  have e4 := y4.a.c0
  have ef4 := y4.f 0
  clear x4 z4 b4 R4 r4
  go_wp2_with (fail)
  have x5 := y4.num0 h0
  have z5 := zu4.heap (Below.heap_setCell u4 ⟨lb, 0, none⟩ (.int .i64 h0) p0 (by show p0 ≠ lb; omega)) (by simp)
  have b5 := bu4.setCell (p := ⟨lb, 0, none⟩) (by show p0 ≤ lb; omega) (.int .i64 h0)
  have R5 := Ru4.heap (Below.heap_setCell u4 ⟨lb, 0, none⟩ (.int .i64 h0) (p0 + 1) (by show p0 + 1 ≠ lb; omega)) (by simp)
  clear y4 zu4 bu4 Ru4 e4 ef4
  generalize u4.setCell ⟨lb, 0, none⟩ (.int .i64 h0) = w5 at *
  clear u4
  refine (rrnum_q (p0 + 1) a1 1 w5 R5 hq1).mono ?_
  rintro e u5 ⟨rfl, r5⟩
  have y5 := x5.rd r5 (by omega)
  have zu5 := z5.rd r5 (by omega)
  have bu5 := b5.trans (r5.keep p0 (by omega) (by have := z5.a.lt; omega))
  have Ru5 := r5.r
  have hq2 : (rNumR a1 1).s.size ≤ 140737488355328 := Nat.le_trans (rNumR_size _ _) hq1
  obtain ⟨h1, hh1⟩ : ∃ v, ((rNum a1 1 : Nat) : Int) = v := ⟨_, rfl⟩
  rw [hh1]
  replace hh1 := Lib.hid hh1
  obtain ⟨a2, ha2⟩ : ∃ v, rNumR a1 1 = v := ⟨_, rfl⟩
  rw [ha2] at Ru5 hq2
  replace ha2 := Lib.hid ha2
  have e5 := y5.a.c1
  have ef5 := y5.f 1
  clear x5 z5 b5 R5 r5
  go_wp2_with (fail)
  have x6 := y5.num1 h1
  have z6 := zu5.heap (Below.heap_setCell u5 ⟨lb, 1, none⟩ (.int .i64 h1) p0 (by show p0 ≠ lb; omega)) (by simp)
  have b6 := bu5.setCell (p := ⟨lb, 1, none⟩) (by show p0 ≤ lb; omega) (.int .i64 h1)
  have R6 := Ru5.heap (Below.heap_setCell u5 ⟨lb, 1, none⟩ (.int .i64 h1) (p0 + 1) (by show p0 + 1 ≠ lb; omega)) (by simp)
  clear y5 zu5 bu5 Ru5 e5 ef5
  generalize u5.setCell ⟨lb, 1, none⟩ (.int .i64 h1) = w6 at *
  clear u5
  refine (rrnum_q (p0 + 1) a2 1 w6 R6 hq2).mono ?_
  rintro e u6 ⟨rfl, r6⟩
  have y6 := x6.rd r6 (by omega)
  have zu6 := z6.rd r6 (by omega)
  have bu6 := b6.trans (r6.keep p0 (by omega) (by have := z6.a.lt; omega))
  have Ru6 := r6.r
  have hq3 : (rNumR a2 1).s.size ≤ 140737488355328 := Nat.le_trans (rNumR_size _ _) hq2
  obtain ⟨h2, hh2⟩ : ∃ v, ((rNum a2 1 : Nat) : Int) = v := ⟨_, rfl⟩
  rw [hh2]
  replace hh2 := Lib.hid hh2
  obtain ⟨a3, ha3⟩ : ∃ v, rNumR a2 1 = v := ⟨_, rfl⟩
  rw [ha3] at Ru6 hq3
  replace ha3 := Lib.hid ha3
  have e6 := y6.a.c3
  have ef6 := y6.f 3
  clear x6 z6 b6 R6 r6
  go_wp2_with (fail)
  have x7 := y6.num3 h2
  have z7 := zu6.heap (Below.heap_setCell u6 ⟨lb, 3, none⟩ (.int .i64 h2) p0 (by show p0 ≠ lb; omega)) (by simp)
  have b7 := bu6.setCell (p := ⟨lb, 3, none⟩) (by show p0 ≤ lb; omega) (.int .i64 h2)
  have R7 := Ru6.heap (Below.heap_setCell u6 ⟨lb, 3, none⟩ (.int .i64 h2) (p0 + 1) (by show p0 + 1 ≠ lb; omega)) (by simp)
  clear y6 zu6 bu6 Ru6 e6 ef6
  generalize u6.setCell ⟨lb, 3, none⟩ (.int .i64 h2) = w7 at *
  clear u6
  refine (rrnum_q (p0 + 1) a3 1 w7 R7 hq3).mono ?_
  rintro e u7 ⟨rfl, r7⟩
  have y7 := x7.rd r7 (by omega)
  have zu7 := z7.rd r7 (by omega)
  have bu7 := b7.trans (r7.keep p0 (by omega) (by have := z7.a.lt; omega))
  have Ru7 := r7.r
  have hq4 : (rNumR a3 1).s.size ≤ 140737488355328 := Nat.le_trans (rNumR_size _ _) hq3
  obtain ⟨h3, hh3⟩ : ∃ v, ((rNum a3 1 : Nat) : Int) = v := ⟨_, rfl⟩
  rw [hh3]
  replace hh3 := Lib.hid hh3
  obtain ⟨a4, ha4⟩ : ∃ v, rNumR a3 1 = v := ⟨_, rfl⟩
  rw [ha4] at Ru7 hq4
  replace ha4 := Lib.hid ha4
  have e7 := y7.a.c4
  have ef7 := y7.f 4
  clear x7 z7 b7 R7 r7
  go_wp2_with (fail)
  have x8 := y7.num4 h3
  have z8 := zu7.heap (Below.heap_setCell u7 ⟨lb, 4, none⟩ (.int .i64 h3) p0 (by show p0 ≠ lb; omega)) (by simp)
  have b8 := bu7.setCell (p := ⟨lb, 4, none⟩) (by show p0 ≤ lb; omega) (.int .i64 h3)
  have R8 := Ru7.heap (Below.heap_setCell u7 ⟨lb, 4, none⟩ (.int .i64 h3) (p0 + 1) (by show p0 + 1 ≠ lb; omega)) (by simp)
  clear y7 zu7 bu7 Ru7 e7 ef7
  generalize u7.setCell ⟨lb, 4, none⟩ (.int .i64 h3) = w8 at *
  clear u7
  refine (rrnum_q (p0 + 1) a4 1 w8 R8 hq4).mono ?_
  rintro e u8 ⟨rfl, r8⟩
  have y8 := x8.rd r8 (by omega)
  have zu8 := z8.rd r8 (by omega)
  have bu8 := b8.trans (r8.keep p0 (by omega) (by have := z8.a.lt; omega))
  have Ru8 := r8.r
  have hq5 : (rNumR a4 1).s.size ≤ 140737488355328 := Nat.le_trans (rNumR_size _ _) hq4
  obtain ⟨h4, hh4⟩ : ∃ v, ((rNum a4 1 : Nat) : Int) = v := ⟨_, rfl⟩
  rw [hh4]
  replace hh4 := Lib.hid hh4
  obtain ⟨a5, ha5⟩ : ∃ v, rNumR a4 1 = v := ⟨_, rfl⟩
  rw [ha5] at Ru8 hq5
  replace ha5 := Lib.hid ha5
  have e8 := y8.a.c5
  have ef8 := y8.f 5
  clear x8 z8 b8 R8 r8
  go_wp2_with (fail)
  have x9 := y8.num5 h4
  have z9 := zu8.heap (Below.heap_setCell u8 ⟨lb, 5, none⟩ (.int .i64 h4) p0 (by show p0 ≠ lb; omega)) (by simp)
  have b9 := bu8.setCell (p := ⟨lb, 5, none⟩) (by show p0 ≤ lb; omega) (.int .i64 h4)
  have R9 := Ru8.heap (Below.heap_setCell u8 ⟨lb, 5, none⟩ (.int .i64 h4) (p0 + 1) (by show p0 + 1 ≠ lb; omega)) (by simp)
  clear y8 zu8 bu8 Ru8 e8 ef8
  generalize u8.setCell ⟨lb, 5, none⟩ (.int .i64 h4) = w9 at *
  clear u8
  refine (rrnum_q (p0 + 1) a5 6 w9 R9 hq5).mono ?_
  rintro e u9 ⟨rfl, r9⟩
  have y9 := x9.rd r9 (by omega)
  have zu9 := z9.rd r9 (by omega)
  have bu9 := b9.trans (r9.keep p0 (by omega) (by have := z9.a.lt; omega))
  have Ru9 := r9.r
  have hq6 : (rNumR a5 6).s.size ≤ 140737488355328 := Nat.le_trans (rNumR_size _ _) hq5
  obtain ⟨h5, hh5⟩ : ∃ v, ((rNum a5 6 : Nat) : Int) = v := ⟨_, rfl⟩
  rw [hh5]
  replace hh5 := Lib.hid hh5
  obtain ⟨a6, ha6⟩ : ∃ v, rNumR a5 6 = v := ⟨_, rfl⟩
  rw [ha6] at Ru9 hq6
  replace ha6 := Lib.hid ha6
  have e9 := y9.a.c2
  have ef9 := y9.f 2
  clear x9 z9 b9 R9 r9
  go_wp2_with (fail)
  have x10 := y9.num2 h5
  have z10 := zu9.heap (Below.heap_setCell u9 ⟨lb, 2, none⟩ (.int .i64 h5) p0 (by show p0 ≠ lb; omega)) (by simp)
  have b10 := bu9.setCell (p := ⟨lb, 2, none⟩) (by show p0 ≤ lb; omega) (.int .i64 h5)
  have R10 := Ru9.heap (Below.heap_setCell u9 ⟨lb, 2, none⟩ (.int .i64 h5) (p0 + 1) (by show p0 + 1 ≠ lb; omega)) (by simp)
  clear y9 zu9 bu9 Ru9 e9 ef9
  generalize u9.setCell ⟨lb, 2, none⟩ (.int .i64 h5) = w10 at *
  clear u9
  change LblBox w10 lb ⟨h0, h1, h5, h2, h3, h4, [], [], []⟩ (.slice none 0 0) (.slice none 0 0) (.slice none 0 0) at x10
  obtain ⟨N, hN⟩ := Int.eq_ofNat_of_zero_le (slots_rng h2 h3 h4).1
  have hN7 : N ≤ 7 := by have := (slots_rng h2 h3 h4).2; omega
  have cS : ∀ W, Calls Tryd.prog 41 #[.agg #[.int .i64 h2, .int .i64 h3, .int .i64 h4]] W fun e w' => e = .returned (.int .i64 (N : Int)) ∧ Below W.heap.size W w' := fun W => hN ▸ rslots_any h2 h3 h4 W
  replace hN := Lib.hid hN
  have hI0 : Hid (RIn w p0 (p0 + 1) lb h0 h1 h2 h3 h4 h5 a6 0 w10 (.slice none 0 0) (.slice none 0 0) (.slice none 0 0)) := Lib.hid ⟨x10, O3.nil _ _ _ rfl rfl rfl, R10, z10, b10⟩
  have hqk : ∀ k, (rListR (tW k) a6).s.size ≤ 140737488355328 := fun k => Nat.le_trans (rListR_size _ _) hq6
  clear x10 R10 z10 b10
  go_loopw [7] (fun t wr => ∃ k : Nat, k ≤ N ∧ t = .int .i64 (k : Int) ∧ ∃ va vb vc, RIn w p0 (p0 + 1) lb h0 h1 h2 h3 h4 h5 a6 k wr va vb vc) (fun t _ => N - (intOf t).toNat)
  case atStart => exact ⟨0, by omega, rfl, _, _, _, hI0.out⟩
  case round =>
    obtain ⟨k, hk, rfl, va, vb, vc, hI⟩ := hrel
    rename World => wr
    clear hI0
    obtain ⟨x0, o0, R0, z0, b0⟩ := hI
    have hql := hqk k
    have hst := rList_tw k a6
    have hsn := th_snoc k (rList (tW k) a6) ((rNum (rListR (tW k) a6) 1 : Nat) : Int) ((rNum (rNumR (rListR (tW k) a6) 1) 6 : Nat) : Int) ((rNum (rNumR (rNumR (rListR (tW k) a6) 1) 6) 1 : Nat) : Int) (by rw [rList_len, tW_len])
    rw [← hst.1] at hsn
    have hst2 := Lib.hid hst.2
    have hlen := th_len k (rList (tW k) a6) (by rw [rList_len, tW_len])
    replace hsn := Lib.hid hsn
    clear hst
    by_cases hlt : k < N
    · have y1 : (k : Int) < (N : Int) := by omega
      obtain ⟨g0, hg0⟩ : ∃ q, rListR (tW k) a6 = q := ⟨_, rfl⟩
      rw [hg0] at R0 hql hst2 hsn
      clear hg0
      obtain ⟨t0, ht0⟩ : ∃ q, th0 (rList (tW k) a6) = q := ⟨_, rfl⟩
      obtain ⟨t1, ht1⟩ : ∃ q, th1 (rList (tW k) a6) = q := ⟨_, rfl⟩
      obtain ⟨t2, ht2⟩ : ∃ q, th2 (rList (tW k) a6) = q := ⟨_, rfl⟩
      rw [ht0, ht1, ht2] at x0 o0 hsn hlen
      clear ht0 ht1 ht2
      have hl0 : t0.length ≤ 7 := by omega
      have hl1 : t1.length ≤ 7 := by omega
      have hl2 : t2.length ≤ 7 := by omega
      clear hlen
      have ⟨e0, e1, e2, e3, e4, e5, e6, e7, e8, elt⟩ := x0.a
      go_wp2_with (fail)
      refine (cS _).mono ?_
      rintro e w1 ⟨rfl, c1⟩
      have x1 := x0.below c1 elt
      have o1 := o0.after c1
      have R1 := R0.below c1 R0.lt
      have z1 := z0.below c1 z0.a.lt
      have b1 := b0.trans (c1.mono (by have := z0.a.lt; omega))
      clear e0 e1 e2 e3 e4 e5 e6 e7 e8 elt x0 o0 R0 z0 b0 c1
      go_wp2_with (fail)
      refine (rrnum_q (p0 + 1) g0 1 w1 R1 hql).mono ?_
      rintro e w2 ⟨rfl, r2⟩
      have x2 := x1.rd r2 (by omega)
      have o2 := o1.rd r2 (by omega)
      have z2 := z1.rd r2 (by omega)
      have b2 := b1.trans (r2.keep p0 (by omega) (by have := z1.a.lt; omega))
      have R2 := r2.r
      replace hql : (rNumR g0 1).s.size ≤ 140737488355328 := Nat.le_trans (rNumR_size _ _) hql
      obtain ⟨v0, hv0⟩ : ∃ v, ((rNum g0 1 : Nat) : Int) = v := ⟨_, rfl⟩
      obtain ⟨g1, hg1⟩ : ∃ v, rNumR g0 1 = v := ⟨_, rfl⟩
      rw [hv0, hg1] at hsn
      rw [hg1] at hst2 R2 hql
      rw [hv0]
      clear hv0 hg1 x1 o1 z1 b1 R1 r2
      go_wp2_with (fail)
      refine (rrnum_q (p0 + 1) g1 6 w2 R2 hql).mono ?_
      rintro e w3 ⟨rfl, r3⟩
      have x3 := x2.rd r3 (by omega)
      have o3 := o2.rd r3 (by omega)
      have z3 := z2.rd r3 (by omega)
      have b3 := b2.trans (r3.keep p0 (by omega) (by have := z2.a.lt; omega))
      have R3 := r3.r
      replace hql : (rNumR g1 6).s.size ≤ 140737488355328 := Nat.le_trans (rNumR_size _ _) hql
      obtain ⟨v1, hv1⟩ : ∃ v, ((rNum g1 6 : Nat) : Int) = v := ⟨_, rfl⟩
      obtain ⟨g2, hg2⟩ : ∃ v, rNumR g1 6 = v := ⟨_, rfl⟩
      rw [hv1, hg2] at hsn
      rw [hg2] at hst2 R3 hql
      rw [hv1]
      clear hv1 hg2 x2 o2 z2 b2 R2 r3
      go_wp2_with (fail)
      refine (rrnum_q (p0 + 1) g2 1 w3 R3 hql).mono ?_
      rintro e w4 ⟨rfl, r4⟩
      have x4 := x3.rd r4 (by omega)
      have o4 := o3.rd r4 (by omega)
      have z4 := z3.rd r4 (by omega)
      have b4 := b3.trans (r4.keep p0 (by omega) (by have := z3.a.lt; omega))
      have R4 := r4.r
      replace hql : (rNumR g2 1).s.size ≤ 140737488355328 := Nat.le_trans (rNumR_size _ _) hql
      obtain ⟨v2, hv2⟩ : ∃ v, ((rNum g2 1 : Nat) : Int) = v := ⟨_, rfl⟩
      obtain ⟨g3, hg3⟩ : ∃ v, rNumR g2 1 = v := ⟨_, rfl⟩
      rw [hv2] at hsn
      rw [hg3] at hst2 R4 hql
      rw [hv2]
      clear hv2 hg3 x3 o3 z3 b3 R3 r4
      obtain ⟨A0, C0, u0, hap0, y0, x5, o5, bb0⟩ := push6 x4 o4 v0 (by show t0.length ≤ 1000; omega)
      obtain ⟨A1, C1, u1, hap1, y1, x6, o6, bb1⟩ := push7 x5 o5 v1 (by show t1.length ≤ 1000; omega)
      obtain ⟨A2, C2, u2, hap2, y2, x7, o7, bb2⟩ := push8 x6 o6 v2 (by show t2.length ≤ 1000; omega)
      rw [World.size_setCell] at hap1 hap2
      have d0 := x4.a.c6
      have d1 := y0.a.c6
      have d2 := y0.a.c7
      have d3 := y1.a.c7
      have d4 := y1.a.c8
      have d5 := y2.a.c8
      have f0 := y0.f 6
      have f1 := y1.f 7
      have f2 := y2.f 8
      have bb := (bb0.trans bb1).trans bb2
      have z7 := z4.heap (bb.block p0 (by omega)) bb.size
      have b7 := b4.trans (bb.mono (by omega))
      have R7 := R4.heap (bb.block (p0 + 1) (by omega)) bb.size
      clear y0 y1 y2 x4 x5 x6 o4 o5 o6 bb0 bb1 bb2 bb z4 b4 R4
      replace x7 := Lib.hid x7
      replace o7 := Lib.hid o7
      go_wp2_with (at_builtin; first | refine wpList_append_run hap0 _ _ rfl rfl rfl rfl rfl ?_ | refine wpList_append_run hap1 _ _ rfl rfl rfl rfl rfl ?_ | refine wpList_append_run hap2 _ _ rfl rfl rfl rfl rfl ?_)
      go_roundw
      case rel => exact ⟨k + 1, by omega, by go_num, _, _, _, ⟨by rw [hsn.out.1, hsn.out.2.1, hsn.out.2.2]; exact x7.out, by rw [hsn.out.1, hsn.out.2.1, hsn.out.2.2]; exact o7.out, by rw [hst2.out]; exact R7, z7, b7⟩⟩
      case measure => simp [intOf]; omega
    · obtain rfl : k = N := by omega
      have y1 : ¬ ((k : Int) < (k : Int)) := by omega
      have ⟨e0, e1, e2, e3, e4, e5, e6, e7, e8, elt⟩ := x0.a
      replace hlen := Lib.hid hlen
      go_wp2_with (fail)
      refine (cS _).mono ?_
      rintro e w1 ⟨rfl, c1⟩
      replace x0 := x0.below c1 elt
      replace o0 := o0.after c1
      replace b0 := b0.trans (c1.mono (by have := z0.a.lt; omega))
      replace R0 := R0.below c1 R0.lt
      replace z0 := z0.below c1 z0.a.lt
      clear e0 e1 e2 e3 e4 e5 e6 e7 e8 elt c1 cS
      replace hlen := hlen.out
      obtain ⟨eH, eH2⟩ := hd_steps ha1.out ha2.out ha3.out ha4.out ha5.out ha6.out hh0.out hh1.out hh2.out hh3.out hh4.out hh5.out
      have eN : nN s = k := by rw [nN, slotsN, hd, ha0.out, eH]; show (gSlots h2 h3 h4).toNat = k; rw [hN.out]; rfl
      have eQ1 : q1 s = a6 := by rw [q1, ha0.out, eH2]
      have eG : Hid (gotL s = ⟨h0, h1, h5, h2, h3, h4, th0 (rList (tW k) a6), th1 (rList (tW k) a6), th2 (rList (tW k) a6)⟩) := Lib.hid (by rw [gotL, eN, eQ1, ofTail, hd, ha0.out, eH]; rfl)
      clear eH eH2
      have eQ : q2 s = rListR (tW k) a6 := by rw [q2, eN, eQ1]
      rw [← eQ] at R0 hql
      have yB : LblBox w1 lb (gotL s) va vb vc := by rw [eG.out]; exact x0
      have oB : O3 w1 (lb + 1) (gotL s) va vb vc := by rw [eG.out]; exact o0
      have hL := oB.lr (by rw [eG.out]; show (th0 _).length ≤ _; omega) (by rw [eG.out]; show (th1 _).length ≤ _; omega) (by rw [eG.out]; show (th2 _).length ≤ _; omega)
      clear x0 o0 eG eQ eN eQ1 hst2 hsn hlen hqk hh0 hh1 hh2 hh3 hh4 hh5 ha1 ha2 ha3 ha4 ha5 ha6 ha0 hN hq0 hq1 hq2 hq3 hq4 hq5 hq6
      have hgb : getB s = (decide (word s = Lb.mark) && (rightB (gotL s) && endsB (q2 s))) := rfl
      have tq := word_eq s
      have hgl : Hid (getL s = if decide (word s = Lb.mark) && (rightB (gotL s) && endsB (q2 s)) then gotL s else noLbl) := Lib.hid (by rw [getL, hgb])
      have hge : Hid (getE s = if decide (word s = Lb.mark) && (rightB (gotL s) && endsB (q2 s)) then 0 else 100) := Lib.hid (by rw [getE, hgb])
      clear hgb
      have cE := fun W (h : RdAt W (p0 + 1) (q2 s).s (q2 s).b) => rends_any (p0 + 1) (q2 s).s (q2 s).b W h hql
      rw [show (!(q2 s).b && zeroB (q2 s).s) = endsB (q2 s) from rfl] at cE
      generalize gotL s = y at *
      generalize q2 s = q at *
      obtain ⟨A1, n1, C1, rfl⟩ : ∃ a n c, va = .slice a n c := by obtain ⟨a, c, h⟩ := oB.a.isSlice; exact ⟨a, _, c, h⟩
      obtain ⟨A2, n2, C2, rfl⟩ : ∃ a n c, vb = .slice a n c := by obtain ⟨a, c, h⟩ := oB.b.isSlice; exact ⟨a, _, c, h⟩
      obtain ⟨A3, n3, C3, rfl⟩ : ∃ a n c, vc = .slice a n c := by obtain ⟨a, c, h⟩ := oB.c.isSlice; exact ⟨a, _, c, h⟩
      have cR := fun W (h : LR W y (.slice A1 n1 C1) (.slice A2 n2 C2) (.slice A3 n3 C3)) => rright10_any y (.slice A1 n1 C1) (.slice A2 n2 C2) (.slice A3 n3 C3) W h
      unfold Lbl.v at cR
      have y1b := yB
      have o1 := oB
      have L1 := hL
      have R1 := R0
      have z1 := z0
      have b1 := b0
      clear yB oB hL R0 z0 b0
      have ⟨e0, e1, e2, e3, e4, e5, e6, e7, e8, elt⟩ := y1b.a
      go_wp2_with (fail)
      refine (cR _ L1).mono ?_
      rintro e w2 ⟨rfl, c2⟩
      have y2 := y1b.below c2 elt
      have o2 := o1.after c2
      have L2 := L1.below c2
      have R2 := R1.below c2 R1.lt
      have z0 := z1.below c2 z1.a.lt
      have b0 := b1.trans (c2.mono (by have := z1.a.lt; omega))
      clear e0 e1 e2 e3 e4 e5 e6 e7 e8 elt y1b o1 R1 z1 b1 c2 cR L1
      go_wp2_with (fail)
      refine (cE _ R2).mono ?_
      rintro e w3 ⟨rfl, rfl⟩
      clear cE R2
      have ⟨e0, e1, e2, e3, e4, e5, e6, e7, e8, elt⟩ := z0.a
      have u0 := z0.f 0
      have u1 := z0.f 1
      have u2 := z0.f 2
      have u3 := z0.f 3
      have u4 := z0.f 4
      have u5 := z0.f 5
      have u6 := z0.f 6
      have u7 := z0.f 7
      have u8 := z0.f 8
      cases hr : rightB y with
      | false =>
        rw [hr] at hgl hge
        replace hgl : Hid (getL s = noLbl) := Lib.hid (by rw [hgl.out]; simp)
        replace hge : Hid (getE s = 100) := Lib.hid (by rw [hge.out]; simp)
        clear hr y2 o2 L2
        go_wp2_with (fail)
        refine bodyPost_ret (rres_get (z0.put noLbl (.slice none 0 0) (.slice none 0 0) (.slice none 0 0)) rfl rfl) rfl ?_
        rw [hgl.out, hge.out]
        refine ⟨_, _, _, rfl, ⟨.inl ⟨⟨_, _, rfl⟩, rfl⟩, .inl ⟨⟨_, _, rfl⟩, rfl⟩, .inl ⟨⟨_, _, rfl⟩, rfl⟩, Nat.zero_le _, Nat.zero_le _, Nat.zero_le _⟩, ?_⟩
        rw [hp0.out]
        exact setL_below b0 (Nat.le_refl p0) noLbl (.slice none 0 0) (.slice none 0 0) (.slice none 0 0)
      | true =>
        rw [hr] at hgl hge
        cases he : endsB q with
        | false =>
          rw [he] at hgl hge
          replace hgl : Hid (getL s = noLbl) := Lib.hid (by rw [hgl.out]; simp)
          replace hge : Hid (getE s = 100) := Lib.hid (by rw [hge.out]; simp)
          clear hr he y2 o2 L2
          go_wp2_with (fail)
          refine bodyPost_ret (rres_get (z0.put noLbl (.slice none 0 0) (.slice none 0 0) (.slice none 0 0)) rfl rfl) rfl ?_
          rw [hgl.out, hge.out]
          refine ⟨_, _, _, rfl, ⟨.inl ⟨⟨_, _, rfl⟩, rfl⟩, .inl ⟨⟨_, _, rfl⟩, rfl⟩, .inl ⟨⟨_, _, rfl⟩, rfl⟩, Nat.zero_le _, Nat.zero_le _, Nat.zero_le _⟩, ?_⟩
          rw [hp0.out]
          exact setL_below b0 (Nat.le_refl p0) noLbl (.slice none 0 0) (.slice none 0 0) (.slice none 0 0)
        | true =>
          rw [he] at hgl hge
          cases hw : decide (word s = Lb.mark) with
          | false =>
            rw [hw] at hgl hge tq
            replace hgl : Hid (getL s = noLbl) := Lib.hid hgl.out
            replace hge : Hid (getE s = 100) := Lib.hid hge.out
            clear hr he hw y2 o2 L2
            go_wp2_with (fail)
            refine bodyPost_ret (rres_get (z0.put noLbl (.slice none 0 0) (.slice none 0 0) (.slice none 0 0)) rfl rfl) rfl ?_
            rw [hgl.out, hge.out]
            refine ⟨_, _, _, rfl, ⟨.inl ⟨⟨_, _, rfl⟩, rfl⟩, .inl ⟨⟨_, _, rfl⟩, rfl⟩, .inl ⟨⟨_, _, rfl⟩, rfl⟩, Nat.zero_le _, Nat.zero_le _, Nat.zero_le _⟩, ?_⟩
            rw [hp0.out]
            exact setL_below b0 (Nat.le_refl p0) noLbl (.slice none 0 0) (.slice none 0 0) (.slice none 0 0)
          | true =>
            rw [hw] at hgl hge tq
            replace hgl : Hid (getL s = y) := Lib.hid hgl.out
            replace hge : Hid (getE s = 0) := Lib.hid hge.out
            clear hr he hw
            have ⟨f0, f1, f2, f3, f4, f5, f6, f7, f8, flt⟩ := y2.a
            go_wp2_with (fail)
            refine bodyPost_ret (rres_get (z0.put y (.slice A1 n1 C1) (.slice A2 n2 C2) (.slice A3 n3 C3)) rfl rfl) rfl ?_
            rw [hgl.out, hge.out]
            refine ⟨_, _, _, rfl, (o2.heap fun k hk _ => setL_heap _ _ _ _ _ _ _ (by omega)).lr L2.ls L2.lb L2.lc, ?_⟩
            rw [hp0.out]
            exact setL_below b0 (Nat.le_refl p0) y (.slice A1 n1 C1) (.slice A2 n2 C2) (.slice A3 n3 C3)
end Go.Proofs.YtaopknddpagjeaaDoor
