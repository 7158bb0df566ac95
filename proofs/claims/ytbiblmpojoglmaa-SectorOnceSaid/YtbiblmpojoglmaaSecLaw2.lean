/- sector's laws. -/
import Derived.Test.YtbiblmpojoglmaaSecLaw
namespace Go.Proofs.Ytbiblmpojoglmaa
open Go.RowKit
set_option linter.unusedVariables false
set_option linter.unusedSimpArgs false

/-- What was made: of which numbers, of which text. -/
structure Made (i l a : Nat) (q : ByteArray) : Prop where
  i1 : 1 ≤ i
  i2 : i ≤ 65535
  l : l ≤ 6
  a : a ≤ 255
  q : q.size ≤ 120
theorem Made.sz {i l a : Nat} {q : ByteArray} (h : Made i l a q) : (secS i l a q).size = 128 := (open_sealed h.i1 h.i2 h.l h.a h.q 0 0 0).2.2
def MadeR (w : World) (i l a : Nat) (q : ByteArray) (e : Ending) (w' : World) : Prop :=
  e = .returned (.tuple #[.int .i64 (i : Int), .int .i64 (l : Int), .int .i64 (a : Int), .string (padB q 120), .string (secS i l a q), .bool true]) ∧ Below w.heap.size w w'
set_option maxRecDepth 100000 in
set_option maxHeartbeats 1000000 in
theorem made_any (d slot at_ : Int) (p : ByteArray) (rd : -9223372036854775808 ≤ d ∧ d ≤ 9223372036854775807) (rs : -9223372036854775808 ≤ slot ∧ slot ≤ 9223372036854775807) (ra : -9223372036854775808 ≤ at_ ∧ at_ ≤ 9223372036854775807) (hp : p.size ≤ 140737488351232) :
    ∃ (i l a : Nat) (q : ByteArray), Made i l a q ∧ ∀ w, Calls Try.prog 14 #[.int .i64 d, .int .i64 slot, .int .i64 at_, .string p] w (MadeR w i l a q) := by
  obtain ⟨x, hx, _, kx⟩ := pick_nat d 65535 rd.1 rd.2 (by decide) (by decide)
  obtain ⟨l, hl, _, kl⟩ := pick_nat slot 7 rs.1 rs.2 (by decide) (by decide)
  obtain ⟨a, ha, _, ka⟩ := pick_nat at_ 256 ra.1 ra.2 (by decide) (by decide)
  obtain ⟨n, hn⟩ : ∃ n : Nat, n = min p.size 120 := ⟨_, rfl⟩
  have hn1 : n ≤ p.size := by omega
  have hq : (p.extract 0 n).size ≤ 120 := by simp [ByteArray.size_extract]; omega
  have hm : Made (1 + x) l a (p.extract 0 n) := ⟨by omega, by omega, by omega, by omega, hq⟩
  refine ⟨1 + x, l, a, p.extract 0 n, hm, fun w => ?_⟩
  have hmin : min (p.size : Int) 120 = (n : Int) := by omega
  have hcut := fun W => cut_run (P := Try.prog) (T := 9) Try.underlying9 p n hn1 W
  have hfl := fun W => rfill_any (p.extract 0 n) 120 W (by omega)
  obtain ⟨g1, g2⟩ := fill_good w (p.extract 0 n) 120 (by omega) hq
  rw [show ((120 : Nat) : Int) = 120 from rfl] at g1 g2
  rw [g1, g2] at hfl
  have hsl := fun W => seal_any ((1 + x : Nat) : Int) (l : Int) (a : Int) (p.extract 0 n) W (by omega)
  obtain ⟨f1, f2⟩ := seal_good (i := 1 + x) (l := l) (a := a) (p := p.extract 0 n) (by omega) (by omega) (by omega) (by omega) hq
  rw [f1, f2] at hsl
  have hx1 : ((1 + x : Nat) : Int) = 1 + (x : Int) := by omega
  rw [hx1] at hsl
  have e1 : (((((secS (1 + x) l a (p.extract 0 n)).size : Nat) : Int)) == 128) = true := by rw [hm.sz]; rfl
  have hx' : (x : Int) ≤ 65534 := by omega
  have hxz := Lib.hid hx1
  unfold MadeR
  clear f1 f2 g1 g2 hx1 hn hq hm
  generalize secS (1 + x) l a (p.extract 0 n) = s at *
  generalize padB (p.extract 0 n) 120 = pd at *
  generalize p.extract 0 n = q at *
  go_enter Try.func14, Try.ntmps14
  go_wp2_with (fail)
  refine (kx _).mono ?_
  rintro e wq ⟨rfl, rfl⟩
  go_wp2_with (fail)
  refine (kl _).mono ?_
  rintro e wq ⟨rfl, rfl⟩
  go_wp2_with (fail)
  refine (ka _).mono ?_
  rintro e wq ⟨rfl, rfl⟩
  go_wp2_with (fail)
  refine (hfl _).mono ?_
  rintro e w1 ⟨rfl, b1⟩
  go_wp2_with (fail)
  refine (hsl _).mono ?_
  rintro e w2 ⟨rfl, b2⟩
  go_wp2_with (fail)
  rw [hxz.out]
  exact bodyPost_ret (v := .tuple #[.int .i64 (1 + (x : Int)), .int .i64 (l : Int), .int .i64 (a : Int), .string pd, .string s, .bool true]) (by simp [results, Try.results14, go_sem]) rfl ⟨rfl, below_c' b1 b2⟩
set_option maxRecDepth 100000 in
set_option maxHeartbeats 1000000 in
theorem stells_walk (d slot at_ : Int) (p s : ByteArray) (w : World) (hp : p.size ≤ 140737488351232) (hs : s.size ≤ 140737488351232) :
    Calls Try.prog 3 #[.int .i64 d, .int .i64 slot, .int .i64 at_, .string p, .string s] w fun e w' => e = .returned (.bool true) ∧ Below w.heap.size w w' := by
  have c1 := fun W => seal_any d slot at_ p W hp
  have c2 := fun W => rseal_any d slot at_ p W hp
  have c3 := fun W => open_any d slot at_ s W hs
  have c4 := fun W => ropen_any d slot at_ s W hs
  have hz := sealL_size d slot at_ p
  have c5 := fun W => open_any d slot at_ (sealL d slot at_ p) W (by omega)
  have c6 := fun W => ropen_any d slot at_ (sealL d slot at_ p) W (by omega)
  generalize openS d slot at_ (sealL d slot at_ p) = x3 at *
  generalize openOk d slot at_ (sealL d slot at_ p) = y3 at *
  generalize openS d slot at_ s = x2 at *
  generalize openOk d slot at_ s = y2 at *
  generalize sealL d slot at_ p = x1 at *
  generalize sealE d slot at_ p = y1 at *
  clear hz
  go_enter Try.func3, Try.ntmps3
  go_wp2_with (fail)
  refine (secawake_any _).mono ?_
  rintro e w0 ⟨rfl, b0⟩
  go_wp2_with (fail)
  refine (c1 _).mono ?_
  rintro e w1 ⟨rfl, b1⟩
  go_wp2_with (fail)
  refine (c2 _).mono ?_
  rintro e w2 ⟨rfl, b2⟩
  go_wp2_with (fail)
  refine (c3 _).mono ?_
  rintro e w3 ⟨rfl, b3⟩
  go_wp2_with (fail)
  refine (c4 _).mono ?_
  rintro e w4 ⟨rfl, b4⟩
  go_wp2_with (fail)
  refine (c5 _).mono ?_
  rintro e w5 ⟨rfl, b5⟩
  go_wp2_with (fail)
  refine (c6 _).mono ?_
  rintro e w6 ⟨rfl, b6⟩
  go_wp2_with (fail)
  go_ret
  exact ⟨rfl, below_c' (below_c' (below_c' (below_c' (below_c' (below_c' b0 b1) b2) b3) b4) b5) b6⟩
set_option maxRecDepth 100000 in
set_option maxHeartbeats 1000000 in
theorem sback_walk (d slot at_ : Int) (p : ByteArray) (w : World) (rd : -9223372036854775808 ≤ d ∧ d ≤ 9223372036854775807) (rs : -9223372036854775808 ≤ slot ∧ slot ≤ 9223372036854775807) (ra : -9223372036854775808 ≤ at_ ∧ at_ ≤ 9223372036854775807) (hp : p.size ≤ 140737488351232) :
    Calls Try.prog 4 #[.int .i64 d, .int .i64 slot, .int .i64 at_, .string p] w fun e w' => e = .returned (.bool true) ∧ Below w.heap.size w w' := by
  obtain ⟨i, l, a, q, hm, kk⟩ := made_any d slot at_ p rd rs ra hp
  obtain ⟨o1, o2, o3⟩ := open_sealed hm.i1 hm.i2 hm.l hm.a hm.q (i : Int) (l : Int) (a : Int)
  rw [decide_eq_true ⟨rfl, rfl, rfl⟩] at o1
  have c1 := fun W => open_any (i : Int) (l : Int) (a : Int) (secS i l a q) W (by rw [o3]; omega)
  rw [openS, o1, if_pos rfl, o2] at c1
  have hq : q.data.toList.length ≤ 120 := by simpa using hm.q
  have hps : (padB q 120).size = 120 := by rw [padB, lineOf_size, Pk.pad_length hq]
  obtain ⟨g1, g2⟩ := seal_good (i := i) (l := l) (a := a) (p := padB q 120) hm.i1 hm.i2 hm.l hm.a (by omega)
  have c2 := fun W => seal_any (i : Int) (l : Int) (a : Int) (padB q 120) W (by omega)
  rw [g1, g2, show secS i l a (padB q 120) = secS i l a q by rw [secS, secS, show (padB q 120).data.toList = Pk.padL q.data.toList 120 by rw [padB, list_lineOf], Sec.sec_pad _ _ _ hq]] at c2
  unfold MadeR at kk
  clear o1 o2 o3 g1 g2 hps hq hm
  generalize secS i l a q = s at *
  generalize padB q 120 = pd at *
  go_enter Try.func4, Try.ntmps4
  go_wp2_with (fail)
  refine (secawake_any _).mono ?_
  rintro e w0 ⟨rfl, b0⟩
  go_wp2_with (fail)
  refine (kk _).mono ?_
  rintro e w1 ⟨rfl, b1⟩
  go_wp2_with (fail)
  refine (c1 _).mono ?_
  rintro e w2 ⟨rfl, b2⟩
  go_wp2_with (fail)
  refine (c2 _).mono ?_
  rintro e w3 ⟨rfl, b3⟩
  go_wp2_with (fail)
  go_ret
  exact ⟨rfl, below_c' (below_c' (below_c' b0 b1) b2) b3⟩
set_option maxRecDepth 100000 in
set_option maxHeartbeats 1000000 in
theorem splaces_walk (d slot at_ : Int) (p : ByteArray) (x y z : Int) (w : World) (rd : -9223372036854775808 ≤ d ∧ d ≤ 9223372036854775807) (rs : -9223372036854775808 ≤ slot ∧ slot ≤ 9223372036854775807) (ra : -9223372036854775808 ≤ at_ ∧ at_ ≤ 9223372036854775807) (hp : p.size ≤ 140737488351232) :
    Calls Try.prog 5 #[.int .i64 d, .int .i64 slot, .int .i64 at_, .string p, .int .i64 x, .int .i64 y, .int .i64 z] w fun e w' => e = .returned (.bool true) ∧ Below w.heap.size w w' := by
  obtain ⟨i, l, a, q, hm, kk⟩ := made_any d slot at_ p rd rs ra hp
  obtain ⟨o1, o2, o3⟩ := open_sealed hm.i1 hm.i2 hm.l hm.a hm.q x y z
  have c1 := fun W => open_any x y z (secS i l a q) W (by rw [o3]; omega)
  rw [o1] at c1
  obtain ⟨b1, t1⟩ : ∃ b, (x == (i : Int)) = b := ⟨_, rfl⟩
  obtain ⟨b2, t2⟩ : ∃ b, (y == (l : Int)) = b := ⟨_, rfl⟩
  obtain ⟨b3, t3⟩ : ∃ b, (z == (a : Int)) = b := ⟨_, rfl⟩
  have hd : decide (x = (i : Int) ∧ y = (l : Int) ∧ z = (a : Int)) = (b1 && (b2 && b3)) := by
    rw [Bool.decide_and, Bool.decide_and, ← t1, ← t2, ← t3]; rfl
  rw [hd] at c1
  unfold MadeR at kk
  clear o1 o2 o3 hd hm
  generalize openS x y z (secS i l a q) = os at *
  generalize secS i l a q = s at *
  generalize padB q 120 = pd at *
  go_enter Try.func5, Try.ntmps5
  go_wp2_with (fail)
  refine (secawake_any _).mono ?_
  rintro e w0 ⟨rfl, b0⟩
  go_wp2_with (fail)
  refine (kk _).mono ?_
  rintro e w1 ⟨rfl, b1'⟩
  go_wp2_with (fail)
  refine (c1 _).mono ?_
  rintro e w2 ⟨rfl, b2'⟩
  cases b1 <;> cases b2 <;> cases b3 <;>
  · go_wp2_with (fail)
    go_ret
    exact ⟨rfl, below_c' (below_c' b0 b1') b2'⟩
end Go.Proofs.Ytbiblmpojoglmaa
