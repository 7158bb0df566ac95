/- command's laws: what they lean on. -/
import Derived.Test.YtjbekphjhmlloaaDoorCmdWalk6
namespace Go.Proofs.YtjbekphjhmlloaaDoor
open Go.RowKit
set_option linter.unusedVariables false
set_option linter.unusedSimpArgs false

/-- Which of n things a raw number speaks of. -/
def pk (c n : Int) : Int := (if c < 0 then -(c + 1) else c) % n
theorem pk_rng (c n : Int) (h : 1 ≤ n) : 0 ≤ pk c n ∧ pk c n < n := by
  unfold pk; exact ⟨Int.emod_nonneg _ (by omega), Int.emod_lt_of_pos _ (by omega)⟩
theorem pick_any (c n : Int) (w : World) (h1 : -9223372036854775808 ≤ c) (h2 : c ≤ 9223372036854775807) (h3 : 1 ≤ n) (h4 : n ≤ 9223372036854775807) :
    Calls Tryd.prog 20 #[.int .i64 c, .int .i64 n] w fun e w' => e = .returned (.int .i64 (pk c n)) ∧ w = w' := by
  by_cases hc : c < 0
  · have hp : Hid (pk c n = -((c + 1).tmod n)) := Lib.hid (by unfold pk; rw [if_pos hc, ← Int.neg_tmod, Int.tmod_eq_emod_of_nonneg (by omega)])
    go_enter Tryd.func20, Tryd.ntmps20
    go_wp2
    go_ret
    exact ⟨by rw [hp.out]; rfl, rfl⟩
  · have hp : Hid (pk c n = c % n) := Lib.hid (by unfold pk; rw [if_neg hc])
    go_enter Tryd.func20, Tryd.ntmps20
    go_wp2
    go_ret
    exact ⟨by rw [hp.out]; rfl, rfl⟩

def cutB (s : ByteArray) (k : Nat) : ByteArray := s.extract 0 (min s.size k)
def sOp (b : Bool) (s : ByteArray) : ByteArray := if b then s else ⟨#[]⟩
def iOp (b : Bool) (n : Int) : Int := if b then n else 0
/-- A raw command, right. -/
def fitC (x : Cmd) : Cmd :=
  ⟨1 + pk x.op 9, sOp (decide (pk x.op 9 ≤ 6)) (cutB x.n 20), sOp (decide (pk x.op 9 = 2)) (cutB x.o 20), iOp (decide (pk x.op 9 = 4 ∨ pk x.op 9 = 5 ∨ pk x.op 9 = 6)) (pk x.a 1099511627777),
    iOp (decide (pk x.op 9 = 0 ∨ pk x.op 9 = 3 ∨ pk x.op 9 = 5 ∨ pk x.op 9 = 6)) (pk x.c 1099511627777), sOp (decide (pk x.op 9 = 4)) (cutB x.d 600)⟩
theorem cutB_size (s : ByteArray) (k : Nat) : (cutB s k).size ≤ k := by rw [cutB, ByteArray.size_extract]; omega
theorem cut_hi (s : ByteArray) (k : Nat) (h : (k : Int) < (s.size : Int)) : s.extract 0 k = cutB s k := by rw [cutB, Nat.min_eq_right (by omega)]
theorem cut_lo (s : ByteArray) (k : Nat) (h : ¬ (k : Int) < (s.size : Int)) : s.extract 0 s.size = cutB s k := by rw [cutB, Nat.min_eq_left (by omega)]
theorem cut_lo' (s : ByteArray) (k : Nat) (h : ¬ (k : Int) < (s.size : Int)) : s = cutB s k := by rw [← cut_lo s k h, ByteArray.extract_zero_size]
theorem sOp_size {b : Bool} {s : ByteArray} {k : Nat} (h : s.size ≤ k) : (sOp b s).size ≤ k := by unfold sOp; split; exact h; exact Nat.zero_le _
theorem fit_op (x : Cmd) : pk x.op 9 = 0 ∨ pk x.op 9 = 1 ∨ pk x.op 9 = 2 ∨ pk x.op 9 = 3 ∨ pk x.op 9 = 4 ∨ pk x.op 9 = 5 ∨ pk x.op 9 = 6 ∨ pk x.op 9 = 7 ∨ pk x.op 9 = 8 := by
  have := pk_rng x.op 9 (by decide); omega
theorem fit_right (x : Cmd) : rightB (fitC x) = true := by
  have ha := pk_rng x.a 1099511627777 (by decide)
  have hc := pk_rng x.c 1099511627777 (by decide)
  have ho := pk_rng x.op 9 (by decide)
  have hl : limB (fitC x) = true := by
    rw [limB_iff]
    refine ⟨⟨by show 1 ≤ 1 + _; omega, by show 1 + _ ≤ (9 : Int); omega⟩, sOp_size (cutB_size _ _), sOp_size (cutB_size _ _), ?_, ?_, sOp_size (cutB_size _ _)⟩
    · show 0 ≤ iOp _ _ ∧ iOp _ _ ≤ 1099511627776
      unfold iOp; split <;> omega
    · show 0 ≤ iOp _ _ ∧ iOp _ _ ≤ 1099511627776
      unfold iOp; split <;> omega
  rw [rightB, hl, Bool.true_and]
  rcases fit_op x with h | h | h | h | h | h | h | h | h <;> (simp [useB, Cmd.row, fitC, h, rowOf, okS, okI, sOp, iOp]; rfl)
set_option maxRecDepth 100000 in
set_option maxHeartbeats 4000000 in
theorem fit_any (x : Cmd) (w : World) (h1 : -9223372036854775808 ≤ x.op ∧ x.op ≤ 9223372036854775807) (h2 : -9223372036854775808 ≤ x.a ∧ x.a ≤ 9223372036854775807) (h3 : -9223372036854775808 ≤ x.c ∧ x.c ≤ 9223372036854775807) (hs : x.n.size ≤ 140737488351232 ∧ x.o.size ≤ 140737488351232 ∧ x.d.size ≤ 140737488351232) :
    Calls Tryd.prog 19 #[x.v] w fun e w' => e = .returned (fitC x).v ∧ Below w.heap.size w w' := by
  obtain ⟨s1, s2, s3⟩ := hs
  have g1 := pk_rng x.a 1099511627777 (by decide)
  have g2 := pk_rng x.c 1099511627777 (by decide)
  have hp := fit_op x
  rcases hp with hp | hp | hp | hp | hp | hp | hp | hp | hp
  · have hz : Hid ((fitC x).v = .agg #[.int .i64 1, .string (cutB x.n 20), .string (⟨#[]⟩), .int .i64 0, .int .i64 (pk x.c 1099511627777), .string (⟨#[]⟩)]) := Lib.hid (by simp [fitC, Cmd.v, hp, sOp, iOp])
    generalize (fitC x).v = fv at *
    unfold Cmd.v
    go_enter Tryd.func19, Tryd.ntmps19
    go_wp2_with (go_at_call 20; refine (pick_any _ _ _ (by omega) (by omega) (by omega) (by omega)).mono ?_; rintro e w' ⟨rfl, rfl⟩)
    all_goals exact bodyPost_ret (v := .agg #[.int .i64 1, .string (cutB x.n 20), .string (⟨#[]⟩), .int .i64 0, .int .i64 (pk x.c 1099511627777), .string (⟨#[]⟩)]) (by simp [results, Tryd.results19, go_sem]; all_goals (first | exact cut_hi _ _ (by omega) | exact cut_lo _ _ (by omega) | exact cut_lo' _ _ (by omega) | (refine ⟨?_, ?_⟩ <;> first | exact cut_hi _ _ (by omega) | exact cut_lo _ _ (by omega) | exact cut_lo' _ _ (by omega)))) rfl ⟨by rw [hz.out], (((Below.refl _ _).alloc (Nat.le_refl _) _).alloc (by simp) _).alloc (by simp; omega) _⟩
  · have hz : Hid ((fitC x).v = .agg #[.int .i64 2, .string (cutB x.n 20), .string (⟨#[]⟩), .int .i64 0, .int .i64 0, .string (⟨#[]⟩)]) := Lib.hid (by simp [fitC, Cmd.v, hp, sOp, iOp])
    generalize (fitC x).v = fv at *
    unfold Cmd.v
    go_enter Tryd.func19, Tryd.ntmps19
    go_wp2_with (go_at_call 20; refine (pick_any _ _ _ (by omega) (by omega) (by omega) (by omega)).mono ?_; rintro e w' ⟨rfl, rfl⟩)
    all_goals exact bodyPost_ret (v := .agg #[.int .i64 2, .string (cutB x.n 20), .string (⟨#[]⟩), .int .i64 0, .int .i64 0, .string (⟨#[]⟩)]) (by simp [results, Tryd.results19, go_sem]; all_goals (first | exact cut_hi _ _ (by omega) | exact cut_lo _ _ (by omega) | exact cut_lo' _ _ (by omega) | (refine ⟨?_, ?_⟩ <;> first | exact cut_hi _ _ (by omega) | exact cut_lo _ _ (by omega) | exact cut_lo' _ _ (by omega)))) rfl ⟨by rw [hz.out], (((Below.refl _ _).alloc (Nat.le_refl _) _).alloc (by simp) _).alloc (by simp; omega) _⟩
  · have hz : Hid ((fitC x).v = .agg #[.int .i64 3, .string (cutB x.n 20), .string (cutB x.o 20), .int .i64 0, .int .i64 0, .string (⟨#[]⟩)]) := Lib.hid (by simp [fitC, Cmd.v, hp, sOp, iOp])
    generalize (fitC x).v = fv at *
    unfold Cmd.v
    go_enter Tryd.func19, Tryd.ntmps19
    go_wp2_with (go_at_call 20; refine (pick_any _ _ _ (by omega) (by omega) (by omega) (by omega)).mono ?_; rintro e w' ⟨rfl, rfl⟩)
    all_goals exact bodyPost_ret (v := .agg #[.int .i64 3, .string (cutB x.n 20), .string (cutB x.o 20), .int .i64 0, .int .i64 0, .string (⟨#[]⟩)]) (by simp [results, Tryd.results19, go_sem]; all_goals (first | exact cut_hi _ _ (by omega) | exact cut_lo _ _ (by omega) | exact cut_lo' _ _ (by omega) | (refine ⟨?_, ?_⟩ <;> first | exact cut_hi _ _ (by omega) | exact cut_lo _ _ (by omega) | exact cut_lo' _ _ (by omega)))) rfl ⟨by rw [hz.out], (((Below.refl _ _).alloc (Nat.le_refl _) _).alloc (by simp) _).alloc (by simp; omega) _⟩
  · have hz : Hid ((fitC x).v = .agg #[.int .i64 4, .string (cutB x.n 20), .string (⟨#[]⟩), .int .i64 0, .int .i64 (pk x.c 1099511627777), .string (⟨#[]⟩)]) := Lib.hid (by simp [fitC, Cmd.v, hp, sOp, iOp])
    generalize (fitC x).v = fv at *
    unfold Cmd.v
    go_enter Tryd.func19, Tryd.ntmps19
    go_wp2_with (go_at_call 20; refine (pick_any _ _ _ (by omega) (by omega) (by omega) (by omega)).mono ?_; rintro e w' ⟨rfl, rfl⟩)
    all_goals exact bodyPost_ret (v := .agg #[.int .i64 4, .string (cutB x.n 20), .string (⟨#[]⟩), .int .i64 0, .int .i64 (pk x.c 1099511627777), .string (⟨#[]⟩)]) (by simp [results, Tryd.results19, go_sem]; all_goals (first | exact cut_hi _ _ (by omega) | exact cut_lo _ _ (by omega) | exact cut_lo' _ _ (by omega) | (refine ⟨?_, ?_⟩ <;> first | exact cut_hi _ _ (by omega) | exact cut_lo _ _ (by omega) | exact cut_lo' _ _ (by omega)))) rfl ⟨by rw [hz.out], (((Below.refl _ _).alloc (Nat.le_refl _) _).alloc (by simp) _).alloc (by simp; omega) _⟩
  · have hz : Hid ((fitC x).v = .agg #[.int .i64 5, .string (cutB x.n 20), .string (⟨#[]⟩), .int .i64 (pk x.a 1099511627777), .int .i64 0, .string (cutB x.d 600)]) := Lib.hid (by simp [fitC, Cmd.v, hp, sOp, iOp])
    generalize (fitC x).v = fv at *
    unfold Cmd.v
    go_enter Tryd.func19, Tryd.ntmps19
    go_wp2_with (go_at_call 20; refine (pick_any _ _ _ (by omega) (by omega) (by omega) (by omega)).mono ?_; rintro e w' ⟨rfl, rfl⟩)
    all_goals exact bodyPost_ret (v := .agg #[.int .i64 5, .string (cutB x.n 20), .string (⟨#[]⟩), .int .i64 (pk x.a 1099511627777), .int .i64 0, .string (cutB x.d 600)]) (by simp [results, Tryd.results19, go_sem]; all_goals (first | exact cut_hi _ _ (by omega) | exact cut_lo _ _ (by omega) | exact cut_lo' _ _ (by omega) | (refine ⟨?_, ?_⟩ <;> first | exact cut_hi _ _ (by omega) | exact cut_lo _ _ (by omega) | exact cut_lo' _ _ (by omega)))) rfl ⟨by rw [hz.out], (((Below.refl _ _).alloc (Nat.le_refl _) _).alloc (by simp) _).alloc (by simp; omega) _⟩
  · have hz : Hid ((fitC x).v = .agg #[.int .i64 6, .string (cutB x.n 20), .string (⟨#[]⟩), .int .i64 (pk x.a 1099511627777), .int .i64 (pk x.c 1099511627777), .string (⟨#[]⟩)]) := Lib.hid (by simp [fitC, Cmd.v, hp, sOp, iOp])
    generalize (fitC x).v = fv at *
    unfold Cmd.v
    go_enter Tryd.func19, Tryd.ntmps19
    go_wp2_with (go_at_call 20; refine (pick_any _ _ _ (by omega) (by omega) (by omega) (by omega)).mono ?_; rintro e w' ⟨rfl, rfl⟩)
    all_goals exact bodyPost_ret (v := .agg #[.int .i64 6, .string (cutB x.n 20), .string (⟨#[]⟩), .int .i64 (pk x.a 1099511627777), .int .i64 (pk x.c 1099511627777), .string (⟨#[]⟩)]) (by simp [results, Tryd.results19, go_sem]; all_goals (first | exact cut_hi _ _ (by omega) | exact cut_lo _ _ (by omega) | exact cut_lo' _ _ (by omega) | (refine ⟨?_, ?_⟩ <;> first | exact cut_hi _ _ (by omega) | exact cut_lo _ _ (by omega) | exact cut_lo' _ _ (by omega)))) rfl ⟨by rw [hz.out], (((Below.refl _ _).alloc (Nat.le_refl _) _).alloc (by simp) _).alloc (by simp; omega) _⟩
  · have hz : Hid ((fitC x).v = .agg #[.int .i64 7, .string (cutB x.n 20), .string (⟨#[]⟩), .int .i64 (pk x.a 1099511627777), .int .i64 (pk x.c 1099511627777), .string (⟨#[]⟩)]) := Lib.hid (by simp [fitC, Cmd.v, hp, sOp, iOp])
    generalize (fitC x).v = fv at *
    unfold Cmd.v
    go_enter Tryd.func19, Tryd.ntmps19
    go_wp2_with (go_at_call 20; refine (pick_any _ _ _ (by omega) (by omega) (by omega) (by omega)).mono ?_; rintro e w' ⟨rfl, rfl⟩)
    all_goals exact bodyPost_ret (v := .agg #[.int .i64 7, .string (cutB x.n 20), .string (⟨#[]⟩), .int .i64 (pk x.a 1099511627777), .int .i64 (pk x.c 1099511627777), .string (⟨#[]⟩)]) (by simp [results, Tryd.results19, go_sem]; all_goals (first | exact cut_hi _ _ (by omega) | exact cut_lo _ _ (by omega) | exact cut_lo' _ _ (by omega) | (refine ⟨?_, ?_⟩ <;> first | exact cut_hi _ _ (by omega) | exact cut_lo _ _ (by omega) | exact cut_lo' _ _ (by omega)))) rfl ⟨by rw [hz.out], (((Below.refl _ _).alloc (Nat.le_refl _) _).alloc (by simp) _).alloc (by simp; omega) _⟩
  · have hz : Hid ((fitC x).v = .agg #[.int .i64 8, .string (⟨#[]⟩), .string (⟨#[]⟩), .int .i64 0, .int .i64 0, .string (⟨#[]⟩)]) := Lib.hid (by simp [fitC, Cmd.v, hp, sOp, iOp])
    generalize (fitC x).v = fv at *
    unfold Cmd.v
    go_enter Tryd.func19, Tryd.ntmps19
    go_wp2_with (go_at_call 20; refine (pick_any _ _ _ (by omega) (by omega) (by omega) (by omega)).mono ?_; rintro e w' ⟨rfl, rfl⟩)
    all_goals exact bodyPost_ret (v := .agg #[.int .i64 8, .string (⟨#[]⟩), .string (⟨#[]⟩), .int .i64 0, .int .i64 0, .string (⟨#[]⟩)]) (by simp [results, Tryd.results19, go_sem]; all_goals (first | exact cut_hi _ _ (by omega) | exact cut_lo _ _ (by omega) | exact cut_lo' _ _ (by omega) | (refine ⟨?_, ?_⟩ <;> first | exact cut_hi _ _ (by omega) | exact cut_lo _ _ (by omega) | exact cut_lo' _ _ (by omega)))) rfl ⟨by rw [hz.out], (((Below.refl _ _).alloc (Nat.le_refl _) _).alloc (by simp) _).alloc (by simp; omega) _⟩
  · have hz : Hid ((fitC x).v = .agg #[.int .i64 9, .string (⟨#[]⟩), .string (⟨#[]⟩), .int .i64 0, .int .i64 0, .string (⟨#[]⟩)]) := Lib.hid (by simp [fitC, Cmd.v, hp, sOp, iOp])
    generalize (fitC x).v = fv at *
    unfold Cmd.v
    go_enter Tryd.func19, Tryd.ntmps19
    go_wp2_with (go_at_call 20; refine (pick_any _ _ _ (by omega) (by omega) (by omega) (by omega)).mono ?_; rintro e w' ⟨rfl, rfl⟩)
    all_goals exact bodyPost_ret (v := .agg #[.int .i64 9, .string (⟨#[]⟩), .string (⟨#[]⟩), .int .i64 0, .int .i64 0, .string (⟨#[]⟩)]) (by simp [results, Tryd.results19, go_sem]; all_goals (first | exact cut_hi _ _ (by omega) | exact cut_lo _ _ (by omega) | exact cut_lo' _ _ (by omega) | (refine ⟨?_, ?_⟩ <;> first | exact cut_hi _ _ (by omega) | exact cut_lo _ _ (by omega) | exact cut_lo' _ _ (by omega)))) rfl ⟨by rw [hz.out], (((Below.refl _ _).alloc (Nat.le_refl _) _).alloc (by simp) _).alloc (by simp; omega) _⟩
def GetsV (w : World) (g : Cmd) (n : Int) (e : Ending) (w' : World) : Prop := e = .returned (.tuple #[.agg #[.int .i64 g.op, .string g.n, .string g.o, .int .i64 g.a, .int .i64 g.c, .string g.d], .int .i64 n]) ∧ Below w.heap.size w w'
theorem get_v (s : ByteArray) (w : World) (hF : Flds w) (hs : s.size ≤ 140737488355328) : Calls Tryd.prog 11 #[.string s] w (GetsV w (getC s) (getE s)) := cget_any s w hF hs
theorem rget_v (s : ByteArray) (w : World) (hs : s.size ≤ 140737488351232) : Calls Tryd.prog 12 #[.string s] w (GetsV w (getC s) (getE s)) := rget_any s w hs
set_option maxRecDepth 100000 in
theorem aw_facts : (putL ⟨2, ⟨#[97, 98]⟩, ⟨#[]⟩, 0, 0, ⟨#[]⟩⟩ = ⟨#[2, 2, 97, 98]⟩ ∧ putE ⟨2, ⟨#[97, 98]⟩, ⟨#[]⟩, 0, 0, ⟨#[]⟩⟩ = 0) ∧ (putL ⟨9, ⟨#[]⟩, ⟨#[]⟩, 0, 0, ⟨#[]⟩⟩ = ⟨#[9]⟩ ∧ putE ⟨9, ⟨#[]⟩, ⟨#[]⟩, 0, 0, ⟨#[]⟩⟩ = 0) ∧ getE ⟨#[9, 0]⟩ = 200 ∧ (getB ⟨#[2, 2, 97, 98]⟩ = true ∧ (parse ⟨#[2, 2, 97, 98]⟩).x.op = 2 ∧ (parse ⟨#[2, 2, 97, 98]⟩).x.n = ⟨#[97, 98]⟩ ∧ (parse ⟨#[2, 2, 97, 98]⟩).x.o = ⟨#[]⟩ ∧ (parse ⟨#[2, 2, 97, 98]⟩).x.a = 0 ∧ (parse ⟨#[2, 2, 97, 98]⟩).x.c = 0 ∧ (parse ⟨#[2, 2, 97, 98]⟩).x.d = ⟨#[]⟩) ∧
    (tldE ⟨#[0, 191, 120]⟩ = 191 ∧ tldD ⟨#[0, 191, 120]⟩ = ⟨#[120]⟩ ∧ tldB ⟨#[0, 191, 120]⟩ = true) ∧ replyL 191 ⟨#[120]⟩ = ⟨#[0, 191, 120]⟩ := by decide +kernel
set_option maxRecDepth 100000 in
set_option maxHeartbeats 4000000 in
theorem awake_any (w : World) (hF : Flds w) : Calls Tryd.prog 8 #[] w fun e w' => e = .returned (.bool true) ∧ Below w.heap.size w w' := by
  obtain ⟨⟨f1, f2⟩, ⟨f3, f4⟩, f5, ⟨f6, f7⟩, ⟨f8, f9, f10⟩, f11⟩ := aw_facts
  have c1 := fun W h => cput_any ⟨2, ⟨#[97, 98]⟩, ⟨#[]⟩, 0, 0, ⟨#[]⟩⟩ W h (by decide)
  have c2 := fun W h => cput_any ⟨9, ⟨#[]⟩, ⟨#[]⟩, 0, 0, ⟨#[]⟩⟩ W h (by decide)
  have c3 := fun W h => get_v ⟨#[9, 0]⟩ W h (by decide)
  have c4 := fun W h => get_v ⟨#[2, 2, 97, 98]⟩ W h (by decide)
  have c5 := fun W => told_any ⟨#[0, 191, 120]⟩ W (by decide)
  have c6 := fun W => reply_any 191 ⟨#[120]⟩ W (by decide)
  rw [f1, f2] at c1
  rw [f3, f4] at c2
  rw [f5] at c3
  have hg4 : getC ⟨#[2, 2, 97, 98]⟩ = ⟨2, ⟨#[97, 98]⟩, ⟨#[]⟩, 0, 0, ⟨#[]⟩⟩ := by rw [getC, if_pos f6]; obtain ⟨a1, a2, a3, a4, a5, a6⟩ := f7; generalize (parse ⟨#[2, 2, 97, 98]⟩).x = y at *; obtain ⟨b1, b2, b3, b4, b5, b6⟩ := y; simp only at a1 a2 a3 a4 a5 a6; subst a1 a2 a3 a4 a5 a6; rfl
  have hg4e : getE ⟨#[2, 2, 97, 98]⟩ = 0 := by rw [getE, if_pos f6]
  rw [hg4, hg4e] at c4
  unfold Tells3 at c5
  rw [f8, f9, f10] at c5
  rw [f11] at c6
  dsimp only [Cmd.v] at c1 c2
  unfold GetsV at c4
  dsimp only at c4
  generalize getC ⟨#[9, 0]⟩ = y at *
  have hq := fun w => eql_cmd w ⟨2, ⟨#[97, 98]⟩, ⟨#[]⟩, 0, 0, ⟨#[]⟩⟩ ⟨2, ⟨#[97, 98]⟩, ⟨#[]⟩, 0, 0, ⟨#[]⟩⟩
  simp only [Cmd.v, beq_self_eq_true, Bool.and_self] at hq
  have hg := eql_cmd_guard
  clear f1 f2 f3 f4 f5 f6 f7 f8 f9 f10 f11 hg4 hg4e
  go_enter Tryd.func8, Tryd.ntmps8
  go_wp2_with (fail)
  refine (c1 _ hF).mono ?_
  rintro e w1 ⟨rfl, b1⟩
  have F1 := hF.below b1
  go_wp2_with (fail)
  refine (c2 _ F1).mono ?_
  rintro e w2 ⟨rfl, b2⟩
  have F2 := F1.below b2
  go_wp2_with (fail)
  refine (c3 _ F2).mono ?_
  rintro e w3 ⟨rfl, b3⟩
  have F3 := F2.below b3
  have a3 : Below w3.heap.size w3 (w3.alloc (.cells #[.int .i64 y.op, .string y.n, .string y.o, .int .i64 y.a, .int .i64 y.c, .string y.d] 23)) := (Below.refl _ _).alloc (Nat.le_refl _) _
  have F3' := F3.below a3
  go_wp2_with (fail)
  refine (c4 _ F3').mono ?_
  rintro e w4 ⟨rfl, b4⟩
  have hB4 := below_d (below_d (below_d (below_d b1 b2) b3) a3) b4
  have a4 : Below w4.heap.size w4 (w4.alloc (.cells #[.int .i64 2, .string ⟨#[97, 98]⟩, .string ⟨#[]⟩, .int .i64 0, .int .i64 0, .string ⟨#[]⟩] 23)) := (Below.refl _ _).alloc (Nat.le_refl _) _
  have x4 := CmdAt.made w4 ⟨2, ⟨#[97, 98]⟩, ⟨#[]⟩, 0, 0, ⟨#[]⟩⟩ 23
  have hB4' := below_d hB4 a4
  go_wp2_with (fail)
  obtain ⟨wa, hwa⟩ : ∃ W, w4.alloc (.cells #[.int .i64 2, .string ⟨#[97, 98]⟩, .string ⟨#[]⟩, .int .i64 0, .int .i64 0, .string ⟨#[]⟩] 23) = W := ⟨_, rfl⟩
  have x4' : CmdAt wa w4.heap.size ⟨2, ⟨#[97, 98]⟩, ⟨#[]⟩, 0, 0, ⟨#[]⟩⟩ := by rw [← hwa]; exact x4
  rw [hwa] at hB4'
  try rw [hwa]
  clear x4 a4 hwa a3 F3 F3' F2 F1 b1 b2 b3 b4 hB4
  refine (c5 _).mono ?_
  rintro e w5 ⟨rfl, b5⟩
  have x5 := x4'.below b5 x4'.lt
  have hB5 := below_d hB4' b5
  obtain ⟨k0, k1, k2, k3, k4, k5, _, _, _, _, _, _, kl⟩ := x5
  simp only at k0 k1 k2 k3 k4 k5
  go_wp2_with (fail)
  refine (c6 _).mono ?_
  rintro e w6 ⟨rfl, b6⟩
  go_wp2_with (fail)
  go_ret
  exact ⟨rfl, below_d hB5 b6⟩
end Go.Proofs.YtjbekphjhmlloaaDoor
