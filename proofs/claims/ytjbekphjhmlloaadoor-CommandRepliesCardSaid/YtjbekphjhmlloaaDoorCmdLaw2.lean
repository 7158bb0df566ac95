/- command's laws. -/
import Derived.Test.YtjbekphjhmlloaaDoorCmdLaw1
namespace Go.Proofs.YtjbekphjhmlloaaDoor
open Go.RowKit
set_option linter.unusedVariables false
set_option linter.unusedSimpArgs false

def Right1 (w : World) (e : Ending) (w' : World) : Prop := e = .returned (.bool true) ∧ Below w.heap.size w w'
noncomputable instance : DecidableEq Cmd := fun _ _ => Classical.propDecidable _
theorem eqlB (x y : Cmd) : (x.op == y.op && (x.n.toList == y.n.toList && (x.o.toList == y.o.toList && (x.a == y.a && (x.c == y.c && x.d.toList == y.d.toList))))) = decide (x = y) := by
  obtain ⟨a, b, c, d, e, f⟩ := x
  obtain ⟨a', b', c', d', e', f'⟩ := y
  rw [Bool.eq_iff_iff]
  simp only [toL_eq, Bool.and_eq_true, beq_iff_eq, decide_eq_true_eq, Cmd.mk.injEq]
theorem put_right {x : Cmd} (h : rightB x = true) : putL x = encR x x.row ∧ putE x = 0 := by rw [putL, putE, h]; exact ⟨rfl, rfl⟩
theorem get_put {x : Cmd} (h : rightB x = true) : getC (putL x) = x ∧ getE (putL x) = 0 := by
  have hb := get_laid x h ⟨#[]⟩
  have hp := parse_laid x h ⟨#[]⟩
  rw [Rm.app_nil] at hb hp
  rw [(put_right h).1, getC, getE, hb, hp]; exact ⟨rfl, rfl⟩
theorem put_inj {x y : Cmd} (hx : rightB x = true) (hy : rightB y = true) : decide (putL x = putL y) = decide (x = y) := by
  rw [decide_eq_decide]
  exact ⟨fun h => by have := (get_put hx).1; rw [h, (get_put hy).1] at this; exact this.symm, fun h => by rw [h]⟩
theorem put_size {x : Cmd} (h : rightB x = true) : 1 ≤ (putL x).size ∧ (putL x).size ≤ 1828 := by
  have hl : limB x = true := by unfold rightB at h; rw [Bool.and_eq_true] at h; exact h.1
  obtain ⟨⟨h1, h9⟩, h2, h3, h4, h5, h6⟩ := (limB_iff x).1 hl
  obtain ⟨i, hi⟩ := Int.eq_ofNat_of_zero_le (show 0 ≤ x.op by omega)
  obtain ⟨f, g, k, hr, _⟩ := row_form i
  have hrow : x.row = [f, g, k] := by rw [Cmd.row, hi]; exact hr
  have hz := enc_size x h2 h3 h6 x.row
  rw [(put_right h).1]
  refine ⟨?_, by rw [hrow] at hz ⊢; simpa using hz⟩
  have e := Rm.numL_nat i 1 (by decide) (by decide) (by omega)
  rw [show ((1 : Nat) : Int) = 1 from rfl] at e
  rw [hrow, enc3, hi, e, ByteArray.size_append, Rm.be_size]; omega
theorem cut_none {x : Cmd} (h : rightB x = true) (k : Nat) (hk : k < (putL x).size) : getE ((putL x).extract 0 k) = 200 := by
  have : getB ((putL x).extract 0 k) = false := by
    rw [Bool.eq_false_iff]
    intro hb
    obtain ⟨hy, hs⟩ := get_read hb
    generalize (parse ((putL x).extract 0 k)).x = y at *
    have h1 := parse_laid x h ⟨#[]⟩
    rw [Rm.app_nil, ← (put_right h).1, Rm.split (putL x) k, hs, parse_laid y hy] at h1
    have h2 : ((putL x).extract k (putL x).size).size = 0 := by
      have := congrArg PSt.s h1
      simp only at this
      rw [this]; rfl
    rw [ByteArray.size_extract] at h2
    omega
  rw [getE, this]; rfl
theorem more_none {x : Cmd} (h : rightB x = true) (q : ByteArray) (hq : q.size ≠ 0) : getE (putL x ++ q) = 200 := by
  rw [getE, (put_right h).1, get_laid x h q, decide_eq_false hq]; rfl
theorem reply_told (n : Nat) (hn : n < 65536) (d : ByteArray) : tldE (replyL (n : Int) d) = (n : Int) ∧ tldD (replyL (n : Int) d) = d ∧ tldB (replyL (n : Int) d) = true := by
  have hc : clE (n : Int) = (n : Int) := if_neg (by omega)
  have hr : replyL (n : Int) d = lineOf (Pk.be 2 n) ++ d := by
    have := Rm.numL_nat n 2 (by decide) (by decide) (by omega)
    rw [show ((2 : Nat) : Int) = 2 from rfl] at this
    rw [replyL, hc, this]
  obtain ⟨f1, f2, f3⟩ := Rm.num_laid n 2 d (by decide) (by decide) (by omega)
  rw [show ((2 : Nat) : Int) = 2 from rfl] at f1 f2 f3
  have hb : tldB (lineOf (Pk.be 2 n) ++ d) = true := by rw [← okN2]; exact f1
  have hx := Rm.ext_right (lineOf (Pk.be 2 n)) d
  rw [Rm.be_size] at hx
  rw [hr, tldE, tldD, hb, f2]
  exact ⟨rfl, by rw [if_pos rfl, hx], rfl⟩
theorem reply_size (e : Int) (d : ByteArray) : (replyL e d).size ≤ 7 + d.size := by
  have := numL2_size (clE e)
  rw [replyL, ByteArray.size_append]; omega
set_option maxRecDepth 100000 in
set_option maxHeartbeats 8000000 in
theorem replies_walk (e : Int) (d : ByteArray) (w : World) (hF : Flds w) (re : -9223372036854775808 ≤ e ∧ e ≤ 9223372036854775807) (hd : d.size ≤ 140737488351232) : Calls Tryd.prog 7 #[.int .i64 e, .string d] w (Right1 w) := by
  have hr := pk_rng e 65536 (by decide)
  obtain ⟨n, hn⟩ := Int.eq_ofNat_of_zero_le hr.1
  have c1 := fun W => pick_any e 65536 W re.1 re.2 (by decide) (by decide)
  obtain ⟨g1, g2, g3⟩ := reply_told n (by omega) d
  have c2 := fun W => reply_any (n : Int) d W hd
  have c3 := fun W => told_any (replyL (n : Int) d) W (by have := reply_size (n : Int) d; omega)
  unfold Tells3 at c3
  rw [g1, g2, g3] at c3
  rw [hn] at c1
  clear g1 g2 g3 hr hn
  generalize replyL (n : Int) d = r at *
  go_enter Tryd.func7, Tryd.ntmps7
  go_wp2_with (fail)
  refine (awake_any _ hF).mono ?_
  rintro e w1 ⟨rfl, b1⟩
  go_wp2_with (fail)
  refine (c1 _).mono ?_
  rintro e wq ⟨rfl, rfl⟩
  go_wp2_with (fail)
  refine (c2 _).mono ?_
  rintro e w2 ⟨rfl, b2⟩
  go_wp2_with (fail)
  refine (c3 _).mono ?_
  rintro e w3 ⟨rfl, b3⟩
  go_wp2_with (fail)
  go_ret
  exact ⟨rfl, below_d (below_d b1 b2) b3⟩
set_option maxRecDepth 100000 in
set_option maxHeartbeats 8000000 in
theorem taken_walk (s : ByteArray) (w : World) (hF : Flds w) (hs : s.size ≤ 140737488351232) : Calls Tryd.prog 6 #[.string s] w (Right1 w) := by
  have c1 := fun W h => get_v s W h (by omega)
  have hg := eql_cmd_guard
  cases hb : getB s with
  | false =>
    have e1 : getC s = noCmd := by rw [getC, hb]; rfl
    have e2 : getE s = 200 := by rw [getE, hb]; rfl
    rw [e1, e2] at c1
    unfold GetsV at c1
    dsimp only [noCmd] at c1
    have hq := fun w => eql_cmd w noCmd noCmd
    simp only [noCmd, Cmd.v, beq_self_eq_true, Bool.and_self] at hq
    clear hb e1 e2
    go_enter Tryd.func6, Tryd.ntmps6
    go_wp2_with (fail)
    refine (awake_any _ hF).mono ?_
    rintro e w1 ⟨rfl, b1⟩
    go_wp2_with (fail)
    refine (c1 _ (hF.below b1)).mono ?_
    rintro e w2 ⟨rfl, b2⟩
    go_wp2_with (fail)
    go_ret
    exact ⟨rfl, (below_d b1 b2).alloc (by have := (below_d b1 b2).size; exact this) _⟩
  | true =>
    obtain ⟨hr, he⟩ := get_read hb
    have e1 : getC s = (parse s).x := by rw [getC, hb]; rfl
    have e2 : getE s = 0 := by rw [getE, hb]; rfl
    rw [e1, e2] at c1
    generalize (parse s).x = y at *
    obtain ⟨p1, p2⟩ := put_right hr
    rw [← he] at p1
    have hl : limB y = true := by unfold rightB at hr; rw [Bool.and_eq_true] at hr; exact hr.1
    obtain ⟨_, l2, l3, _, _, l6⟩ := (limB_iff y).1 hl
    have c2 := fun W h => cput_any y W h ⟨by omega, by omega, by omega⟩
    have c3 := fun W h => cright_any y W h
    rw [p1, p2] at c2
    rw [hr] at c3
    unfold GetsV at c1
    unfold Cmd.v at c2 c3
    have x3 := fun W => CmdAt.made W y 23
    clear hb e1 e2 hr he p1 p2 hl l2 l3 l6
    go_enter Tryd.func6, Tryd.ntmps6
    go_wp2_with (fail)
    refine (awake_any _ hF).mono ?_
    rintro e w1 ⟨rfl, b1⟩
    go_wp2_with (fail)
    refine (c1 _ (hF.below b1)).mono ?_
    rintro e w2 ⟨rfl, b2⟩
    have b12 := below_d b1 b2
    have a3 : Below w2.heap.size w2 (w2.alloc (.cells #[.int .i64 y.op, .string y.n, .string y.o, .int .i64 y.a, .int .i64 y.c, .string y.d] 23)) := (Below.refl _ _).alloc (Nat.le_refl _) _
    have b13 := below_d b12 a3
    have F3 := hF.below b13
    have y3 := x3 w2
    go_wp2_with (fail)
    generalize hw3 : w2.alloc (.cells #[.int .i64 y.op, .string y.n, .string y.o, .int .i64 y.a, .int .i64 y.c, .string y.d] 23) = w3 at *
    refine (c2 _ F3).mono ?_
    rintro e w4 ⟨rfl, b4⟩
    have y4 := y3.below b4 y3.lt
    have b14 := below_d b13 b4
    have F4 := F3.below b4
    obtain ⟨k0, k1, k2, k3, k4, k5, _, _, _, _, _, _, kl⟩ := y4
    clear y3 a3 hw3
    go_wp2_with (fail)
    refine (c3 _ F4).mono ?_
    rintro e w5 ⟨rfl, b5⟩
    go_wp2_with (fail)
    go_ret
    exact ⟨rfl, below_d b14 b5⟩
set_option maxRecDepth 100000 in
set_option maxHeartbeats 8000000 in
theorem back_walk (x y : Cmd) (w : World) (hF : Flds w) (p1 : -9223372036854775808 ≤ x.op ∧ x.op ≤ 9223372036854775807) (p2 : -9223372036854775808 ≤ x.a ∧ x.a ≤ 9223372036854775807) (p3 : -9223372036854775808 ≤ x.c ∧ x.c ≤ 9223372036854775807) (p4 : x.n.size ≤ 140737488351232 ∧ x.o.size ≤ 140737488351232 ∧ x.d.size ≤ 140737488351232) (q1 : -9223372036854775808 ≤ y.op ∧ y.op ≤ 9223372036854775807) (q2 : -9223372036854775808 ≤ y.a ∧ y.a ≤ 9223372036854775807) (q3 : -9223372036854775808 ≤ y.c ∧ y.c ≤ 9223372036854775807) (q4 : y.n.size ≤ 140737488351232 ∧ y.o.size ≤ 140737488351232 ∧ y.d.size ≤ 140737488351232) : Calls Tryd.prog 4 #[x.v, y.v] w (Right1 w) := by
  have cx := fun W => fit_any x W p1 p2 p3 p4
  have cy := fun W => fit_any y W q1 q2 q3 q4
  have rx := fit_right x
  have ry := fit_right y
  generalize fitC x = a at *
  generalize fitC y = b at *
  clear p1 p2 p3 p4 q1 q2 q3 q4
  obtain ⟨s1, t1⟩ := put_right rx
  obtain ⟨s2, t2⟩ := put_right ry
  have hla : limB a = true := by have h := rx; unfold rightB at h; rw [Bool.and_eq_true] at h; exact h.1
  have hlb : limB b = true := by have h := ry; unfold rightB at h; rw [Bool.and_eq_true] at h; exact h.1
  obtain ⟨_, l2, l3, _, _, l6⟩ := (limB_iff a).1 hla
  obtain ⟨_, m2, m3, _, _, m6⟩ := (limB_iff b).1 hlb
  have c1 := fun W h => cput_any a W h ⟨by omega, by omega, by omega⟩
  have c2 := fun W h => cput_any b W h ⟨by omega, by omega, by omega⟩
  have c3 := fun W h => get_v (putL a) W h (by have := (put_size rx).2; omega)
  have c4 := fun W h => cright_any a W h
  obtain ⟨g1, g2⟩ := get_put rx
  rw [t1] at c1
  rw [t2] at c2
  rw [g1, g2] at c3
  rw [rx] at c4
  have hq1 := fun w => eql_cmd w a a
  have hq2 := fun w => eql_cmd w a b
  rw [eqlB, decide_eq_true rfl] at hq1
  rw [eqlB, ← put_inj rx ry, ← toL_eq] at hq2
  have hg := eql_cmd_guard
  have zA := (put_size rx).2
  have zB := (put_size ry).2
  generalize putL a = sa at *
  generalize putL b = sb at *
  obtain ⟨β, hβ⟩ : ∃ β, (sa.toList == sb.toList) = β := ⟨_, rfl⟩
  rw [hβ] at hq2
  unfold Cmd.v at *
  unfold GetsV at c3
  clear rx ry s1 s2 t1 t2 hla hlb l2 l3 l6 m2 m3 m6 g1 g2
  have xa := fun W => CmdAt.made W a 23
  have xb := fun W => CmdAt.made W b 23
  have xx := CmdAt.made w x 23
  have hb0 : Below w.heap.size w ((w.alloc (.cells #[.int .i64 x.op, .string x.n, .string x.o, .int .i64 x.a, .int .i64 x.c, .string x.d] 23)).alloc (.cells #[.int .i64 y.op, .string y.n, .string y.o, .int .i64 y.a, .int .i64 y.c, .string y.d] 23)) := ((Below.refl _ _).alloc (Nat.le_refl _) _).alloc (by simp) _
  have xy := CmdAt.made (w.alloc (.cells #[.int .i64 x.op, .string x.n, .string x.o, .int .i64 x.a, .int .i64 x.c, .string x.d] 23)) y 23
  have xx' := xx.below ((Below.refl (w.alloc (.cells #[.int .i64 x.op, .string x.n, .string x.o, .int .i64 x.a, .int .i64 x.c, .string x.d] 23)).heap.size _).alloc (Nat.le_refl _) (.cells #[.int .i64 y.op, .string y.n, .string y.o, .int .i64 y.a, .int .i64 y.c, .string y.d] 23)) (by simp)
  have F0 := hF.below hb0
  have hs0 : (w.alloc (.cells #[.int .i64 x.op, .string x.n, .string x.o, .int .i64 x.a, .int .i64 x.c, .string x.d] 23)).heap.size = w.heap.size + 1 := by simp
  rw [hs0] at xy
  clear hs0 xx
  go_enter Tryd.func4, Tryd.ntmps4
  go_wp2_with (fail)
  generalize hw0 : (w.alloc (.cells #[.int .i64 x.op, .string x.n, .string x.o, .int .i64 x.a, .int .i64 x.c, .string x.d] 23)).alloc (.cells #[.int .i64 y.op, .string y.n, .string y.o, .int .i64 y.a, .int .i64 y.c, .string y.d] 23) = w0 at *
  refine (awake_any _ F0).mono ?_
  rintro e w1 ⟨rfl, b1⟩
  have X1 := xx'.below b1 xx'.lt
  have Y1 := xy.below b1 xy.lt
  have F1 := F0.below b1
  have B1 : Below w.heap.size w w1 := hb0.trans (b1.mono hb0.size)
  clear hw0 xx' xy F0 b1 hb0
  obtain ⟨k0, k1, k2, k3, k4, k5, _, _, _, _, _, _, kl⟩ := X1
  go_wp2_with (fail)
  refine (cx _).mono ?_
  rintro e w2 ⟨rfl, b2⟩
  clear k0 k1 k2 k3 k4 k5
  have Y2 := Y1.below b2 Y1.lt
  have F2 := F1.below b2
  have B2 := below_d B1 b2
  have a2 : Below w2.heap.size w2 (w2.alloc (.cells #[.int .i64 a.op, .string a.n, .string a.o, .int .i64 a.a, .int .i64 a.c, .string a.d] 23)) := (Below.refl _ _).alloc (Nat.le_refl _) _
  have A3 := xa w2
  have Y3 := Y2.below a2 Y2.lt
  have F3 := F2.below a2
  have B3 := below_d B2 a2
  obtain ⟨k0, k1, k2, k3, k4, k5, _, _, _, _, _, _, kl'⟩ := id Y2
  go_wp2_with (fail)
  generalize hw3 : w2.alloc (.cells #[.int .i64 a.op, .string a.n, .string a.o, .int .i64 a.a, .int .i64 a.c, .string a.d] 23) = w3 at *
  refine (cy _).mono ?_
  rintro e w4 ⟨rfl, b4⟩
  clear k0 k1 k2 k3 k4 k5 hw3 Y1 Y2 Y3 a2
  have A4 := A3.below b4 A3.lt
  have F4 := F3.below b4
  have B4 := below_d B3 b4
  have a4 : Below w4.heap.size w4 (w4.alloc (.cells #[.int .i64 b.op, .string b.n, .string b.o, .int .i64 b.a, .int .i64 b.c, .string b.d] 23)) := (Below.refl _ _).alloc (Nat.le_refl _) _
  have A5 := A4.below a4 A4.lt
  have C5 := xb w4
  have F5 := F4.below a4
  have B5 := below_d B4 a4
  obtain ⟨k0, k1, k2, k3, k4, k5, _, _, _, _, _, _, kl2⟩ := id A4
  go_wp2_with (fail)
  generalize hw5 : w4.alloc (.cells #[.int .i64 b.op, .string b.n, .string b.o, .int .i64 b.a, .int .i64 b.c, .string b.d] 23) = w5 at *
  refine (c1 _ F5).mono ?_
  rintro e w6 ⟨rfl, b6⟩
  clear k0 k1 k2 k3 k4 k5 hw5 A3 A4 a4
  have A6 := A5.below b6 A5.lt
  have C6 := C5.below b6 C5.lt
  have F6 := F5.below b6
  have B6 := below_d B5 b6
  obtain ⟨k0, k1, k2, k3, k4, k5, _, _, _, _, _, _, kl3⟩ := id C6
  go_wp2_with (fail)
  refine (c2 _ F6).mono ?_
  rintro e w7 ⟨rfl, b7⟩
  clear k0 k1 k2 k3 k4 k5 A5 C5
  have A7 := A6.below b7 A6.lt
  have C7 := C6.below b7 C6.lt
  have F7 := F6.below b7
  have B7 := below_d B6 b7
  go_wp2_with (fail)
  refine (c3 _ F7).mono ?_
  rintro e w8 ⟨rfl, b8⟩
  have A8 := A7.below b8 A7.lt
  have C8 := C7.below b8 C7.lt
  have F8 := F7.below b8
  have B8 := below_d B7 b8
  have a8 : Below w8.heap.size w8 (w8.alloc (.cells #[.int .i64 a.op, .string a.n, .string a.o, .int .i64 a.a, .int .i64 a.c, .string a.d] 23)) := (Below.refl _ _).alloc (Nat.le_refl _) _
  have D9 := xa w8
  have A9 := A8.below a8 A8.lt
  have C9 := C8.below a8 C8.lt
  have F9 := F8.below a8
  have B9 := below_d B8 a8
  obtain ⟨k0, k1, k2, k3, k4, k5, _, _, _, _, _, _, kl4⟩ := id A8
  clear A6 A7 C6 C7 a8
  go_wp2_with (fail)
  generalize hw9 : w8.alloc (.cells #[.int .i64 a.op, .string a.n, .string a.o, .int .i64 a.a, .int .i64 a.c, .string a.d] 23) = w9 at *
  clear hw9
  refine (c4 _ F9).mono ?_
  rintro e w10 ⟨rfl, b10⟩
  clear k0 k1 k2 k3 k4 k5
  have A10 := A9.below b10 A9.lt
  have C10 := C9.below b10 C9.lt
  have D10 := D9.below b10 D9.lt
  have B10 := below_d B9 b10
  obtain ⟨k0, k1, k2, k3, k4, k5, _, _, _, _, _, _, kl4⟩ := A10
  obtain ⟨j0, j1, j2, j3, j4, j5, _, _, _, _, _, _, kl5⟩ := C10
  obtain ⟨i0, i1, i2, i3, i4, i5, _, _, _, _, _, _, kl6⟩ := D10
  go_wp2_with (fail)
  go_ret
  exact ⟨by simp, B10⟩
end Go.Proofs.YtjbekphjhmlloaaDoor
