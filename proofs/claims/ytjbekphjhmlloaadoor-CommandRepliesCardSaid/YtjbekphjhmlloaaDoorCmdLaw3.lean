/- command's laws: no beginning, and nothing that goes on; whatever there is. -/
import Derived.Test.YtjbekphjhmlloaaDoorCmdLaw2
namespace Go.Proofs.YtjbekphjhmlloaaDoor
open Go.RowKit
set_option linter.unusedVariables false
set_option linter.unusedSimpArgs false

set_option maxRecDepth 100000 in
set_option maxHeartbeats 8000000 in
theorem whole_walk (x : Cmd) (cut : Int) (more : ByteArray) (w : World) (hF : Flds w) (p1 : -9223372036854775808 ≤ x.op ∧ x.op ≤ 9223372036854775807) (p2 : -9223372036854775808 ≤ x.a ∧ x.a ≤ 9223372036854775807) (p3 : -9223372036854775808 ≤ x.c ∧ x.c ≤ 9223372036854775807) (p4 : x.n.size ≤ 140737488351232 ∧ x.o.size ≤ 140737488351232 ∧ x.d.size ≤ 140737488351232) (rc : -9223372036854775808 ≤ cut ∧ cut ≤ 9223372036854775807) (hm : more.size ≤ 140737488351232) : Calls Tryd.prog 5 #[x.v, .int .i64 cut, .string more] w (Right1 w) := by
  have cx := fun W => fit_any x W p1 p2 p3 p4
  have rx := fit_right x
  generalize fitC x = a at *
  clear p1 p2 p3 p4
  obtain ⟨s1, t1⟩ := put_right rx
  have hla : limB a = true := by have h := rx; unfold rightB at h; rw [Bool.and_eq_true] at h; exact h.1
  obtain ⟨_, l2, l3, _, _, l6⟩ := (limB_iff a).1 hla
  have c1 := fun W h => cput_any a W h ⟨by omega, by omega, by omega⟩
  obtain ⟨z1, z2⟩ := put_size rx
  have hk := pk_rng cut ((putL a).size : Int) (by omega)
  obtain ⟨k, hk0⟩ := Int.eq_ofNat_of_zero_le hk.1
  have ck := fun W => pick_any cut ((putL a).size : Int) W rc.1 rc.2 (by omega) (by omega)
  rw [hk0] at ck
  have hkn : k < (putL a).size := by omega
  have hsl := fun W => to_run (P := Tryd.prog) (T := 9) Tryd.underlying9 (putL a) k (by omega) W
  have g1 := cut_none rx k hkn
  have hq0 : (more ++ (⟨#[120]⟩ : ByteArray)).size ≠ 0 := by rw [ByteArray.size_append]; show more.size + 1 ≠ 0; omega
  have g2 := more_none rx (more ++ (⟨#[120]⟩ : ByteArray)) hq0
  rw [← Rm.app_assoc] at g2
  have z3 : ((putL a).extract 0 k).size ≤ 1828 := by rw [ByteArray.size_extract]; omega
  have z4 : (putL a ++ more).size ≤ 140737488353060 := by rw [ByteArray.size_append]; omega
  have z5 : (putL a ++ more ++ (⟨#[120]⟩ : ByteArray)).size ≤ 140737488353061 := by rw [ByteArray.size_append]; show _ + 1 ≤ _; omega
  have c2 := fun W h => get_v ((putL a).extract 0 k) W h (by omega)
  have c3 := fun W h => get_v (putL a ++ more ++ (⟨#[120]⟩ : ByteArray)) W h (by omega)
  rw [g1] at c2
  rw [g2] at c3
  rw [t1] at c1
  unfold GetsV at c2 c3
  unfold Cmd.v at *
  clear g1 g2 hq0 hk hk0 rx s1 t1 hla l2 l3 l6
  generalize getC (putL a ++ more ++ (⟨#[120]⟩ : ByteArray)) = y3 at *
  generalize getC ((putL a).extract 0 k) = y2 at *
  have t0 : decide (((putL a).size : Int) < 1) = false := by rw [decide_eq_false_iff_not]; omega
  have t0' : decide ((putL a).size < 1) = false := by rw [decide_eq_false_iff_not]; omega
  generalize putL a = sa at *
  generalize hu : sa.extract 0 k = u at *
  clear hu
  have xx := CmdAt.made w x 23
  have hb0 : Below w.heap.size w (w.alloc (.cells #[.int .i64 x.op, .string x.n, .string x.o, .int .i64 x.a, .int .i64 x.c, .string x.d] 23)) := (Below.refl _ _).alloc (Nat.le_refl _) _
  have F0 := hF.below hb0
  go_enter Tryd.func5, Tryd.ntmps5
  go_wp2_with (fail)
  generalize hw0 : w.alloc (.cells #[.int .i64 x.op, .string x.n, .string x.o, .int .i64 x.a, .int .i64 x.c, .string x.d] 23) = w0 at *
  refine (awake_any _ F0).mono ?_
  rintro e w1 ⟨rfl, b1⟩
  have X1 := xx.below b1 xx.lt
  have F1 := F0.below b1
  have B1 : Below w.heap.size w w1 := hb0.trans (b1.mono hb0.size)
  clear hw0 xx F0 b1 hb0
  obtain ⟨k0, k1, k2, k3, k4, k5, _, _, _, _, _, _, kl⟩ := X1
  go_wp2_with (fail)
  refine (cx _).mono ?_
  rintro e w2 ⟨rfl, b2⟩
  clear k0 k1 k2 k3 k4 k5
  have F2 := F1.below b2
  have B2 := below_d B1 b2
  go_wp2_with (fail)
  refine (c1 _ F2).mono ?_
  rintro e w3 ⟨rfl, b3⟩
  have F3 := F2.below b3
  have B3 := below_d B2 b3
  go_wp2_with (fail)
  refine (ck _).mono ?_
  rintro e wq ⟨rfl, rfl⟩
  go_wp2_with (fail)
  refine (c2 _ F3).mono ?_
  rintro e w4 ⟨rfl, b4⟩
  have F4 := F3.below b4
  have B4 := below_d B3 b4
  have a4 : Below w4.heap.size w4 (w4.alloc (.cells #[.int .i64 y2.op, .string y2.n, .string y2.o, .int .i64 y2.a, .int .i64 y2.c, .string y2.d] 23)) := (Below.refl _ _).alloc (Nat.le_refl _) _
  have F5 := F4.below a4
  have B5 := below_d B4 a4
  go_wp2_with (fail)
  refine (c3 _ F5).mono ?_
  rintro e w6 ⟨rfl, b6⟩
  have B6 := below_d B5 b6
  go_wp2_with (fail)
  go_ret
  exact ⟨rfl, B6.alloc B6.size _⟩
set_option maxRecDepth 100000 in
set_option maxHeartbeats 8000000 in
theorem tells_walk (x : Cmd) (s : ByteArray) (e : Int) (w : World) (hF : Flds w) (p1 : -9223372036854775808 ≤ x.op ∧ x.op ≤ 9223372036854775807) (p2 : -9223372036854775808 ≤ x.a ∧ x.a ≤ 9223372036854775807) (p3 : -9223372036854775808 ≤ x.c ∧ x.c ≤ 9223372036854775807) (p4 : x.n.size ≤ 140737488351232 ∧ x.o.size ≤ 140737488351232 ∧ x.d.size ≤ 140737488351232) (hs : s.size ≤ 140737488351232) : Calls Tryd.prog 3 #[x.v, .string s, .int .i64 e] w (Right1 w) := by
  have c1 := fun W h => cput_any x W h p4
  have c2 := fun W => rput_any x W p4
  have c3 := fun W h => get_v s W h (by omega)
  have c4 := fun W => rget_v s W hs
  have c5 := fun W => told_any s W (by omega)
  have c6 := fun W => rtold_any s W (by omega)
  have c7 := fun W h => cright_any x W h
  have c8 := fun W => rright_any x W
  have c9 := fun W => reply_any e s W hs
  have c10 := fun W => rreply_any e s W hs
  have hq := fun w => eql_cmd w (getC s) (getC s)
  rw [eqlB, decide_eq_true rfl] at hq
  have hg := eql_cmd_guard
  unfold Cmd.v at *
  unfold GetsV at c3 c4
  unfold Tells3 at c5 c6
  generalize getC s = y at *
  generalize getE s = ye at *
  generalize putL x = pl at *
  generalize putE x = pe at *
  generalize rightB x = rb at *
  generalize replyL e s = rl at *
  generalize tldE s = te at *
  generalize tldD s = td at *
  generalize tldB s = tb at *
  clear p1 p2 p3 p4 hs
  have q1 : (pl.toList == pl.toList) = true := beq_self_eq_true _
  have q2 : (td.toList == td.toList) = true := beq_self_eq_true _
  have q3 : (rl.toList == rl.toList) = true := beq_self_eq_true _
  have q4 : (pe == pe) = true := beq_self_eq_true _
  have q5 : (ye == ye) = true := beq_self_eq_true _
  have q6 : (te == te) = true := beq_self_eq_true _
  have q7 : (tb == tb) = true := beq_self_eq_true _
  have q8 : (rb == rb) = true := beq_self_eq_true _
  skip
  have xx := CmdAt.made w x 23
  have hb0 : Below w.heap.size w (w.alloc (.cells #[.int .i64 x.op, .string x.n, .string x.o, .int .i64 x.a, .int .i64 x.c, .string x.d] 23)) := (Below.refl _ _).alloc (Nat.le_refl _) _
  have F0 := hF.below hb0
  have yy := fun W => CmdAt.made W y 23
  go_enter Tryd.func3, Tryd.ntmps3
  go_wp2_with (fail)
  generalize hw0 : w.alloc (.cells #[.int .i64 x.op, .string x.n, .string x.o, .int .i64 x.a, .int .i64 x.c, .string x.d] 23) = w0 at *
  refine (awake_any _ F0).mono ?_
  rintro e w1 ⟨rfl, b1⟩
  have X1 := xx.below b1 xx.lt
  have F1 := F0.below b1
  have B1 : Below w.heap.size w w1 := hb0.trans (b1.mono hb0.size)
  clear hw0 xx F0 b1 hb0
  obtain ⟨k0, k1, k2, k3, k4, k5, _, _, _, _, _, _, kl⟩ := id X1
  go_wp2_with (fail)
  refine (c1 _ F1).mono ?_
  rintro e w2 ⟨rfl, b2⟩
  clear k0 k1 k2 k3 k4 k5
  have X2 := X1.below b2 X1.lt
  have F2 := F1.below b2
  have B2 := below_d B1 b2
  obtain ⟨k0, k1, k2, k3, k4, k5, _, _, _, _, _, _, kl⟩ := id X2
  go_wp2_with (fail)
  refine (c2 _).mono ?_
  rintro e w3 ⟨rfl, b3⟩
  clear k0 k1 k2 k3 k4 k5 X1
  have X3 := X2.below b3 X2.lt
  have F3 := F2.below b3
  have B3 := below_d B2 b3
  go_wp2_with (fail)
  refine (c3 _ F3).mono ?_
  rintro e w4 ⟨rfl, b4⟩
  have X4 := X3.below b4 X3.lt
  have F4 := F3.below b4
  have B4 := below_d B3 b4
  have a4 : Below w4.heap.size w4 (w4.alloc (.cells #[.int .i64 y.op, .string y.n, .string y.o, .int .i64 y.a, .int .i64 y.c, .string y.d] 23)) := (Below.refl _ _).alloc (Nat.le_refl _) _
  have X5 := X4.below a4 X4.lt
  have Y5 := yy w4
  have F5 := F4.below a4
  have B5 := below_d B4 a4
  go_wp2_with (fail)
  generalize hw5 : w4.alloc (.cells #[.int .i64 y.op, .string y.n, .string y.o, .int .i64 y.a, .int .i64 y.c, .string y.d] 23) = w5 at *
  clear hw5 X2 X3 X4 a4
  refine (c4 _).mono ?_
  rintro e w6 ⟨rfl, b6⟩
  have X6 := X5.below b6 X5.lt
  have Y6 := Y5.below b6 Y5.lt
  have F6 := F5.below b6
  have B6 := below_d B5 b6
  have a6 : Below w6.heap.size w6 (w6.alloc (.cells #[.int .i64 y.op, .string y.n, .string y.o, .int .i64 y.a, .int .i64 y.c, .string y.d] 23)) := (Below.refl _ _).alloc (Nat.le_refl _) _
  have X7 := X6.below a6 X6.lt
  have Y7 := Y6.below a6 Y6.lt
  have Z7 := yy w6
  have F7 := F6.below a6
  have B7 := below_d B6 a6
  go_wp2_with (fail)
  generalize hw7 : w6.alloc (.cells #[.int .i64 y.op, .string y.n, .string y.o, .int .i64 y.a, .int .i64 y.c, .string y.d] 23) = w7 at *
  clear hw7 X5 X6 Y5 Y6 a6
  refine (c5 _).mono ?_
  rintro e w8 ⟨rfl, b8⟩
  have X8 := X7.below b8 X7.lt
  have Y8 := Y7.below b8 Y7.lt
  have Z8 := Z7.below b8 Z7.lt
  have F8 := F7.below b8
  have B8 := below_d B7 b8
  go_wp2_with (fail)
  refine (c6 _).mono ?_
  rintro e w9 ⟨rfl, b9⟩
  have X9 := X8.below b9 X8.lt
  have Y9 := Y8.below b9 Y8.lt
  have Z9 := Z8.below b9 Z8.lt
  have F9 := F8.below b9
  have B9 := below_d B8 b9
  clear X7 X8 Y7 Y8 Z7 Z8 F1 F2 F3 F4 F5 F6 F7 F8 b2 b3 b4 b6 b8 b9 B1 B2 B3 B4 B5 B6 B7 B8 c1 c2 c3 c4 c5 c6
  go_wp2_with (fail)
  try simp only [List.append]
  refine wp_region_cls (Below w9.heap.size w9) (by kernel_rfl) (by kernel_rfl) (Below.refl _ _).drew ?_
  intro Z f hne hD hE
  have hX := fun z => X9.below (hD z) X9.lt
  have hY := fun z => Y9.below (hD z) Y9.lt
  have hZ := fun z => Z9.below (hD z) Z9.lt
  have x0 := fun z => (hX z).c0
  have x1 := fun z => (hX z).c1
  have x2 := fun z => (hX z).c2
  have x3 := fun z => (hX z).c3
  have x4 := fun z => (hX z).c4
  have x5 := fun z => (hX z).c5
  have y0 := fun z => (hY z).c0
  have y1 := fun z => (hY z).c1
  have y2 := fun z => (hY z).c2
  have y3 := fun z => (hY z).c3
  have y4 := fun z => (hY z).c4
  have y5 := fun z => (hY z).c5
  have z0 := fun z => (hZ z).c0
  have z1 := fun z => (hZ z).c1
  have z2 := fun z => (hZ z).c2
  have z3 := fun z => (hZ z).c3
  have z4 := fun z => (hZ z).c4
  have z5 := fun z => (hZ z).c5
  clear X9 Y9 Z9 hX hY hZ yy
  repeat (go_big_quiet_step (first | (go_at_call 15; exact toQB hD hE _ (c7 _ (F9.below (hD _)))) | (go_at_call 16; exact toQB hD hE _ (c8 _)) | (go_at_call 17; exact toQB hD hE _ (c9 _)) | (go_at_call 18; exact toQB hD hE _ (c10 _))))
  refine wpQuiet_nil ?_
  intro _ hw'
  obtain ⟨zq, hw''⟩ := hw'
  subst hw''
  have hz' := hD zq
  go_wp2
  go_ret
  exact ⟨by simp, below_d B9 hz'⟩
end Go.Proofs.YtjbekphjhmlloaaDoor
