/- command: the document's own Get. -/
import Derived.Test.YtjbekphjhmlloaaDoorCmdWalk5
namespace Go.Proofs.YtjbekphjhmlloaaDoor
open Go.RowKit
set_option linter.unusedVariables false
set_option linter.unusedSimpArgs false

theorem res_rget {tm : Array Value} {W : World} {b : Nat} {x : Cmd} {n : Int} (h : CmdAt W b x) (h2 : tm.getD 2 undef = .pointer (some ⟨b, 0, none⟩)) (h3 : tm.getD 3 undef = .int .i64 n) :
    (results Tryd.f12 tm).run Tryd.prog W = .ok (.tuple #[x.v, .int .i64 n]) W := by
  have h2' : tm[2]?.getD undef = .pointer (some ⟨b, 0, none⟩) := by simpa using h2
  have h3' : tm[3]?.getD undef = .int .i64 n := by simpa using h3
  simp [results, Tryd.results12, go_sem, h2', h3', h.c0, h.c1, h.c2, h.c3, h.c4, h.c5, Cmd.v]
structure Fits (p : PSt) (M : Nat) : Prop where
  s : p.s.size ≤ M
  n : p.x.n.size ≤ M
  o : p.x.o.size ≤ M
  d : p.x.d.size ≤ M
theorem step_fits {p : PSt} {M : Nat} (h : Fits p M) (f : Nat) : Fits (stepF p f) M := by
  have a1 := Nat.le_trans (Rm.numR_size p.s p.b 1) h.s
  have a2 := Nat.le_trans (Rm.numR_size p.s p.b 2) h.s
  have a6 := Nat.le_trans (Rm.numR_size p.s p.b 6) h.s
  have b1 : (rdTR p.s p.b 1).size ≤ M := Nat.le_trans (Rm.txtR_size _ _ _) a1
  have b2 : (rdTR p.s p.b 2).size ≤ M := Nat.le_trans (Rm.txtR_size _ _ _) a2
  have d1 : (rdT p.s p.b 1).size ≤ M := Nat.le_trans (txt_size _ _ _) a1
  have d2 : (rdT p.s p.b 2).size ≤ M := Nat.le_trans (txt_size _ _ _) a2
  unfold stepF
  split
  · exact ⟨b1, d1, h.o, h.d⟩
  split
  · exact ⟨b1, h.n, d1, h.d⟩
  split
  · exact ⟨a6, h.n, h.o, h.d⟩
  split
  · exact ⟨a6, h.n, h.o, h.d⟩
  split
  · exact ⟨b2, h.n, h.o, d2⟩
  exact h
theorem fold_fits {M : Nat} (r : List Nat) : ∀ p : PSt, Fits p M → Fits (r.foldl stepF p) M := by
  induction r with
  | nil => intro p h; exact h
  | cons f r ih => intro p h; exact ih _ (step_fits h f)
set_option maxRecDepth 100000 in
set_option maxHeartbeats 4000000 in
theorem rget_any (s : ByteArray) (w : World) (hs : s.size ≤ 140737488351232) : Calls Tryd.prog 12 #[.string s] w (Gets w s) := by
  have hp0 := Rm.numR_size s false 1
  obtain ⟨i, hi⟩ : ∃ i, i = numV s false 1 := ⟨_, rfl⟩
  have hi256 : i < 256 := by rw [hi]; exact Rm.numV_lt s false 1
  have hop : (parse s).x.op = (i : Int) := by rw [parse_op, hi]
  have c1 := fun W b h => rnumr_any b s false 1 W h
  rw [← hi] at c1
  have hparse : parse s = (fls i).foldl stepF (pSt0 s) := by rw [step_fls, parse, ← hi]
  have hpt : (pSt0 s) = ⟨{ noCmd with op := (i : Int) }, numR s false 1, !okN s false 1⟩ := by rw [pSt0, ← hi]
  rw [hpt] at hparse
  clear hi hpt
  have hbw : Below w.heap.size w (w.alloc (.cells #[.int .i64 0, .string ⟨#[]⟩, .string ⟨#[]⟩, .int .i64 0, .int .i64 0, .string ⟨#[]⟩] 23)) := (Below.refl _ _).alloc (Nat.le_refl _) _
  have z0 := CmdAt.made w noCmd 23
  go_enter Tryd.func12, Tryd.ntmps12
  go_wp2_with (fail)
  refine (rnew_any s _).mono ?_
  rintro e w1 ⟨rfl, hw1⟩
  obtain ⟨w0, hw0⟩ : ∃ W, w.alloc (.cells #[.int .i64 0, .string ⟨#[]⟩, .string ⟨#[]⟩, .int .i64 0, .int .i64 0, .string ⟨#[]⟩] 23) = W := ⟨_, rfl⟩
  have hz0 : w0.heap.size = w.heap.size + 1 := by rw [← hw0]; simp
  rw [hw0] at hw1 hbw
  have z0' : CmdAt w0 w.heap.size noCmd := by rw [← hw0]; exact z0
  clear z0
  have r1 : RdAt w1 w0.heap.size s false := by rw [hw1]; exact RdAt.made _ _ _
  have b1 : Below w0.heap.size w0 w1 := by rw [hw1]; exact (Below.refl _ _).alloc (Nat.le_refl _) _
  have hz1 : w1.heap.size = w.heap.size + 2 := by rw [hw1]; simp; omega
  try rw [hw0]
  rw [hz0] at r1 b1
  clear hw1 hw0
  have z1 := z0'.below b1 (by omega)
  have hB1 : Below w.heap.size w w1 := hbw.trans (b1.mono (by omega))
  clear z0' b1 hbw
  have x2 := CmdAt.made w1 noCmd 23
  have b2 : Below w1.heap.size w1 (w1.alloc (.cells #[.int .i64 0, .string ⟨#[]⟩, .string ⟨#[]⟩, .int .i64 0, .int .i64 0, .string ⟨#[]⟩] 23)) := (Below.refl _ _).alloc (Nat.le_refl _) _
  have z2 := z1.below b2 (by omega)
  have r2 := r1.below b2 (by omega)
  have hB2 : Below w.heap.size w (w1.alloc (.cells #[.int .i64 0, .string ⟨#[]⟩, .string ⟨#[]⟩, .int .i64 0, .int .i64 0, .string ⟨#[]⟩] 23)) := hB1.trans (b2.mono (by omega))
  have hz2 : (w1.alloc (.cells #[.int .i64 0, .string ⟨#[]⟩, .string ⟨#[]⟩, .int .i64 0, .int .i64 0, .string ⟨#[]⟩] 23)).heap.size = w.heap.size + 3 := by simp; omega
  rw [hz1] at x2
  clear z1 r1 hB1 b2
  go_wp2_with (fail)
  have x2' : CmdAt (w1.alloc (.cells #[.int .i64 0, .string ⟨#[]⟩, .string ⟨#[]⟩, .int .i64 0, .int .i64 0, .string ⟨#[]⟩] 23)) (w.heap.size + 2) noCmd := x2
  clear x2
  generalize hw2 : w1.alloc (.cells #[.int .i64 0, .string ⟨#[]⟩, .string ⟨#[]⟩, .int .i64 0, .int .i64 0, .string ⟨#[]⟩] 23) = w2 at *
  clear hw2 hz1
  refine (c1 _ _ r2).mono ?_
  rintro e w3 ⟨rfl, r3⟩
  have z3 := z2.rd r3 (by omega)
  have x3 := x2'.rd r3 (by omega)
  have hB3 := hB2.trans (r3.below (by omega) (by omega))
  have q3 := r3.r
  have hz3 := r3.size
  generalize numR s false 1 = ss at *
  generalize (!okN s false 1) = bb at *
  clear c1 z2 r2 hB2 x2' r3
  obtain ⟨cb, hcb⟩ : ∃ cb, w.heap.size + 2 = cb := ⟨_, rfl⟩
  have hcb3 : cb < w3.heap.size := by omega
  rw [hcb] at x3
  try rw [hcb]
  have hcb1 : w.heap.size + 1 < cb := by omega
  clear hcb
  have e0 := x3.c0
  have e1 := x3.f0
  have z4 := z3.other (o := 0) (b := cb) (.int .i64 (i : Int)) (by omega)
  have x4 := x3.set0 (i : Int)
  have r4 := q3.setO (c := cb) (o := 0) (.int .i64 (i : Int)) (by omega)
  have hB4 := hB3.setCell (p := ⟨cb, 0, none⟩) (by show w.heap.size ≤ cb; omega) (.int .i64 (i : Int))
  have g0 := x4.c0
  have hh := fun w => has_any (i : Int) w
  rw [Int.toNat_natCast] at hh
  have hls := let_size i
  have hll := fls_le i
  have hidx := let_idx i
  have hn := fls_nth i
  have hlsH := Lib.hid hls
  clear hls z3 x3 q3 hB3
  generalize hLS : letS i = LS at *
  have hlz : LS.size = (fls i).length := hlsH.out
  clear hLS hlsH
  obtain ⟨Ln, hLn⟩ : ∃ n : Nat, n = (fls i).length := ⟨_, rfl⟩
  rw [← hLn] at hlz hll
  have hlz1 : LS.size ≤ Ln := by omega
  have hlz2 : Ln ≤ LS.size := by omega
  clear hlz
  generalize isOpB (i : Int) = io at *
  go_wp2_with (fail)
  generalize hw4 : w3.setCell ⟨cb, 0, none⟩ (.int .i64 (i : Int)) = w4 at *
  clear hw4
  refine (hh _).mono ?_
  rintro e wq ⟨rfl, rfl⟩
  go_wp2_with (fail)
  clear g0 hh
  obtain ⟨p0, hp0'⟩ : ∃ p : PSt, p = ⟨{ noCmd with op := (i : Int) }, ss, bb⟩ := ⟨_, rfl⟩
  have hps : ∀ r : List Nat, Fits (r.foldl stepF p0) 140737488351232 := fun r => fold_fits r p0 (by rw [hp0']; exact ⟨by show ss.size ≤ _; omega, Nat.zero_le _, Nat.zero_le _, Nat.zero_le _⟩)
  rw [← hp0'] at hparse
  have x0 : CmdAt w4 cb p0.x := by rw [hp0']; exact x4
  have r0 : RdAt w4 (w.heap.size + 1) p0.s p0.b := by rw [hp0']; exact r4
  clear hp0' x4 r4 e0 e1 hz3 hcb3
  go_loopw [8] (fun t wr => ∃ (k : Nat) (p : PSt), k ≤ Ln ∧ t = .int .i64 (k : Int) ∧ p = ((fls i).take k).foldl stepF p0 ∧ RdAt wr (w.heap.size + 1) p.s p.b ∧ CmdAt wr cb p.x ∧ CmdAt wr w.heap.size noCmd ∧ Below w.heap.size w wr) (fun t _ => Ln - (intOf t).toNat)
  case atStart => exact ⟨0, p0, by omega, rfl, rfl, r0, x0, z4, hB4⟩
  case round =>
    obtain ⟨k, p, hk, rfl, hp, hr, hc, hz, hB⟩ := hrel
    have hBs := hB.size
    have hft := hps ((fls i).take k)
    rw [← hp] at hft
    by_cases hk3 : k < Ln
    · have t3 : (k : Int) < (LS.size : Int) := by omega
      have hix := hidx k (by omega)
      have hf := (hn k (by omega)).1
      have HS : Hid (((fls i).take (k + 1)).foldl stepF p0 = stepF p ((fls i).getD k 0)) := Lib.hid (by rw [(hn k (by omega)).2, List.foldl_append, ← hp]; rfl)
      have hk3' : k + 1 ≤ Ln := by omega
      clear hidx hn hk3 hp hps hparse r0 x0 z4 hB4 hLn
      generalize (fls i).getD k 0 = f at *
      obtain ⟨x, s1, b1⟩ := p
      have hlt := hr.lt
      have hsz := hft.s
      clear hft
      simp only at hr hc hsz
      rcases (by omega : f = 1 ∨ f = 2 ∨ f = 3 ∨ f = 4 ∨ f = 5) with rfl | rfl | rfl | rfl | rfl
      · have n1 := rnumr_any (w.heap.size + 1) s1 b1 1 wr hr
        rw [show letC 1 = 110 from rfl] at hix
        have n2 := fun W h => rtext_any (w.heap.size + 1) (numR s1 b1 1) (!okN s1 b1 1) ((numV s1 b1 1 : Nat) : Int) W h
        have HP : Hid (stepF ⟨x, s1, b1⟩ 1 = ⟨{ x with n := txtS (numR s1 b1 1) (!okN s1 b1 1) ((numV s1 b1 1 : Nat) : Int) }, txtR (numR s1 b1 1) (!okN s1 b1 1) ((numV s1 b1 1 : Nat) : Int), !okT (numR s1 b1 1) (!okN s1 b1 1) ((numV s1 b1 1 : Nat) : Int)⟩) := Lib.hid rfl
        generalize txtS (numR s1 b1 1) (!okN s1 b1 1) ((numV s1 b1 1 : Nat) : Int) = T at *
        generalize txtR (numR s1 b1 1) (!okN s1 b1 1) ((numV s1 b1 1 : Nat) : Int) = S at *
        generalize (!okT (numR s1 b1 1) (!okN s1 b1 1) ((numV s1 b1 1 : Nat) : Int)) = B at *
        generalize numR s1 b1 1 = S0 at *
        generalize (!okN s1 b1 1) = B0 at *
        generalize numV s1 b1 1 = N0 at *
        go_wp2_with (fail)
        refine n1.mono ?_
        rintro e w4 ⟨rfl, r4⟩
        have c4 := hc.rd r4 (by omega)
        have z4 := hz.rd r4 (by omega)
        have hB4 := hB.trans (r4.below (by omega) (by omega))
        go_wp2_with (fail)
        refine (n2 _ r4.r).mono ?_
        rintro e w5 ⟨rfl, r5⟩
        have c5 := c4.rd r5 (by omega)
        have z5 := z4.rd r5 (by omega)
        have hB5 := hB4.trans (r5.below (by omega) (by have := hB4.size; omega))
        have q5 := r5.r
        have hB5s := hB5.size
        have cc := c5.c1
        have ff := c5.f1
        go_wp2_with (fail)
        go_roundw
        case rel => exact ⟨k + 1, ⟨{ x with n := T }, S, B⟩, by omega, by go_num, by rw [HS.out, HP.out], q5.setO _ (by omega), c5.set1 _, z5.other _ (by omega), hB5.setCell (by show w.heap.size ≤ cb; omega) _⟩
        case measure => simp [intOf]; omega
      · have n1 := rnumr_any (w.heap.size + 1) s1 b1 1 wr hr
        rw [show letC 2 = 111 from rfl] at hix
        have n2 := fun W h => rtext_any (w.heap.size + 1) (numR s1 b1 1) (!okN s1 b1 1) ((numV s1 b1 1 : Nat) : Int) W h
        have HP : Hid (stepF ⟨x, s1, b1⟩ 2 = ⟨{ x with o := txtS (numR s1 b1 1) (!okN s1 b1 1) ((numV s1 b1 1 : Nat) : Int) }, txtR (numR s1 b1 1) (!okN s1 b1 1) ((numV s1 b1 1 : Nat) : Int), !okT (numR s1 b1 1) (!okN s1 b1 1) ((numV s1 b1 1 : Nat) : Int)⟩) := Lib.hid rfl
        generalize txtS (numR s1 b1 1) (!okN s1 b1 1) ((numV s1 b1 1 : Nat) : Int) = T at *
        generalize txtR (numR s1 b1 1) (!okN s1 b1 1) ((numV s1 b1 1 : Nat) : Int) = S at *
        generalize (!okT (numR s1 b1 1) (!okN s1 b1 1) ((numV s1 b1 1 : Nat) : Int)) = B at *
        generalize numR s1 b1 1 = S0 at *
        generalize (!okN s1 b1 1) = B0 at *
        generalize numV s1 b1 1 = N0 at *
        go_wp2_with (fail)
        refine n1.mono ?_
        rintro e w4 ⟨rfl, r4⟩
        have c4 := hc.rd r4 (by omega)
        have z4 := hz.rd r4 (by omega)
        have hB4 := hB.trans (r4.below (by omega) (by omega))
        go_wp2_with (fail)
        refine (n2 _ r4.r).mono ?_
        rintro e w5 ⟨rfl, r5⟩
        have c5 := c4.rd r5 (by omega)
        have z5 := z4.rd r5 (by omega)
        have hB5 := hB4.trans (r5.below (by omega) (by have := hB4.size; omega))
        have q5 := r5.r
        have hB5s := hB5.size
        have cc := c5.c2
        have ff := c5.f2
        go_wp2_with (fail)
        go_roundw
        case rel => exact ⟨k + 1, ⟨{ x with o := T }, S, B⟩, by omega, by go_num, by rw [HS.out, HP.out], q5.setO _ (by omega), c5.set2 _, z5.other _ (by omega), hB5.setCell (by show w.heap.size ≤ cb; omega) _⟩
        case measure => simp [intOf]; omega
      · have n1 := rnumr_any (w.heap.size + 1) s1 b1 6 wr hr
        rw [show letC 3 = 97 from rfl] at hix
        have HP : Hid (stepF ⟨x, s1, b1⟩ 3 = ⟨{ x with a := ((numV s1 b1 6 : Nat) : Int) }, numR s1 b1 6, !okN s1 b1 6⟩) := Lib.hid rfl
        generalize numR s1 b1 6 = S at *
        generalize (!okN s1 b1 6) = B at *
        generalize numV s1 b1 6 = T at *
        go_wp2_with (fail)
        refine n1.mono ?_
        rintro e w5 ⟨rfl, r5⟩
        have c5 := hc.rd r5 (by omega)
        have z5 := hz.rd r5 (by omega)
        have hB5 := hB.trans (r5.below (by omega) (by omega))
        have q5 := r5.r
        have hB5s := hB5.size
        have cc := c5.c3
        have ff := c5.f3
        go_wp2_with (fail)
        go_roundw
        case rel => exact ⟨k + 1, ⟨{ x with a := ((T : Nat) : Int) }, S, B⟩, by omega, by go_num, by rw [HS.out, HP.out], q5.setO _ (by omega), c5.set3 _, z5.other _ (by omega), hB5.setCell (by show w.heap.size ≤ cb; omega) _⟩
        case measure => simp [intOf]; omega
      · have n1 := rnumr_any (w.heap.size + 1) s1 b1 6 wr hr
        rw [show letC 4 = 99 from rfl] at hix
        have HP : Hid (stepF ⟨x, s1, b1⟩ 4 = ⟨{ x with c := ((numV s1 b1 6 : Nat) : Int) }, numR s1 b1 6, !okN s1 b1 6⟩) := Lib.hid rfl
        generalize numR s1 b1 6 = S at *
        generalize (!okN s1 b1 6) = B at *
        generalize numV s1 b1 6 = T at *
        go_wp2_with (fail)
        refine n1.mono ?_
        rintro e w5 ⟨rfl, r5⟩
        have c5 := hc.rd r5 (by omega)
        have z5 := hz.rd r5 (by omega)
        have hB5 := hB.trans (r5.below (by omega) (by omega))
        have q5 := r5.r
        have hB5s := hB5.size
        have cc := c5.c4
        have ff := c5.f4
        go_wp2_with (fail)
        go_roundw
        case rel => exact ⟨k + 1, ⟨{ x with c := ((T : Nat) : Int) }, S, B⟩, by omega, by go_num, by rw [HS.out, HP.out], q5.setO _ (by omega), c5.set4 _, z5.other _ (by omega), hB5.setCell (by show w.heap.size ≤ cb; omega) _⟩
        case measure => simp [intOf]; omega
      · have n1 := rnumr_any (w.heap.size + 1) s1 b1 2 wr hr
        rw [show letC 5 = 100 from rfl] at hix
        have n2 := fun W h => rtext_any (w.heap.size + 1) (numR s1 b1 2) (!okN s1 b1 2) ((numV s1 b1 2 : Nat) : Int) W h
        have HP : Hid (stepF ⟨x, s1, b1⟩ 5 = ⟨{ x with d := txtS (numR s1 b1 2) (!okN s1 b1 2) ((numV s1 b1 2 : Nat) : Int) }, txtR (numR s1 b1 2) (!okN s1 b1 2) ((numV s1 b1 2 : Nat) : Int), !okT (numR s1 b1 2) (!okN s1 b1 2) ((numV s1 b1 2 : Nat) : Int)⟩) := Lib.hid rfl
        generalize txtS (numR s1 b1 2) (!okN s1 b1 2) ((numV s1 b1 2 : Nat) : Int) = T at *
        generalize txtR (numR s1 b1 2) (!okN s1 b1 2) ((numV s1 b1 2 : Nat) : Int) = S at *
        generalize (!okT (numR s1 b1 2) (!okN s1 b1 2) ((numV s1 b1 2 : Nat) : Int)) = B at *
        generalize numR s1 b1 2 = S0 at *
        generalize (!okN s1 b1 2) = B0 at *
        generalize numV s1 b1 2 = N0 at *
        go_wp2_with (fail)
        refine n1.mono ?_
        rintro e w4 ⟨rfl, r4⟩
        have c4 := hc.rd r4 (by omega)
        have z4 := hz.rd r4 (by omega)
        have hB4 := hB.trans (r4.below (by omega) (by omega))
        go_wp2_with (fail)
        refine (n2 _ r4.r).mono ?_
        rintro e w5 ⟨rfl, r5⟩
        have c5 := c4.rd r5 (by omega)
        have z5 := z4.rd r5 (by omega)
        have hB5 := hB4.trans (r5.below (by omega) (by have := hB4.size; omega))
        have q5 := r5.r
        have hB5s := hB5.size
        have cc := c5.c5
        have ff := c5.f5
        go_wp2_with (fail)
        go_roundw
        case rel => exact ⟨k + 1, ⟨{ x with d := T }, S, B⟩, by omega, by go_num, by rw [HS.out, HP.out], q5.setO _ (by omega), c5.set5 _, z5.other _ (by omega), hB5.setCell (by show w.heap.size ≤ cb; omega) _⟩
        case measure => simp [intOf]; omega
    · have t3 : decide (k < LS.size) = false := by rw [decide_eq_false_iff_not]; omega
      have hl : (fls i).take k = fls i := List.take_of_length_le (by omega)
      rw [hl, ← hparse] at hp
      have hgs := get_same s
      have hgx : getB s = true → getC s = p.x ∧ getE s = 0 := fun h => by rw [getC, getE, if_pos h, if_pos h, hp]; exact ⟨rfl, rfl⟩
      rw [← hp] at hgs
      clear hl hparse hidx hn hps hp r0 x0 z4 hB4 hop hLn
      have kp := fun W => rput_any p.x W ⟨hft.n, hft.o, hft.d⟩
      obtain ⟨x, s1, b1⟩ := p
      simp only at hr hc hgs hgx kp
      unfold Cmd.v at kp
      obtain ⟨a0, a1, a2, a3, a4, a5, e0, e1, e2, e3, e4, e5, al⟩ := id hc
      cases hrb : rightB x with
      | false =>
        have hz' : Hid (getB s = false) := Lib.hid (by rw [hgs, hrb]; rfl)
        have hpe : putE x = 200 := by rw [putE, hrb]; rfl
        rw [hpe] at kp
        clear hgs hgx hrb hpe
        generalize putL x = pl at *
        go_wp2_with (fail)
        refine (kp _).mono ?_
        rintro e w6 ⟨rfl, b6⟩
        have z6 := hz.below b6 (by omega)
        have hB6 := hB.trans (b6.mono hBs)
        clear hz a0 a1 a2 a3 a4 a5 e0 e1 e2 e3 e4 e5
        have hfin := (((((z6.set0 0).set1 ⟨#[]⟩).set2 ⟨#[]⟩).set3 0).set4 0).set5 ⟨#[]⟩
        obtain ⟨v0, v1, v2, v3, v4, v5, g0, g1, g2, g3, g4, g5, vl⟩ := z6
        go_wp2_with (fail)
        refine bodyPost_ret (res_rget hfin rfl rfl) rfl (get_bad w s hz' _ ?_)
        exact (((((hB6.setCell (Nat.le_refl _) _).setCell (Nat.le_refl _) _).setCell (Nat.le_refl _) _).setCell (Nat.le_refl _) _).setCell (Nat.le_refl _) _).setCell (Nat.le_refl _) _
      | true =>
        have hpe : putE x = 0 := by rw [putE, hrb]; rfl
        rw [hpe] at kp
        rw [hrb, Bool.true_and] at hgs
        clear hrb hpe
        cases hd : decide (putL x = s) with
        | false =>
          have hz' : Hid (getB s = false) := Lib.hid (by rw [hgs, hd])
          have t7 : ((putL x).toList == s.toList) = false := by rw [toL_eq]; exact hd
          have t8 : ((putL x).toList != s.toList) = true := by rw [bne, t7]; rfl
          clear hgs hgx hd
          generalize putL x = pl at *
          go_wp2_with (fail)
          refine (kp _).mono ?_
          rintro e w6 ⟨rfl, b6⟩
          have z6 := hz.below b6 (by omega)
          have hB6 := hB.trans (b6.mono hBs)
          clear hz a0 a1 a2 a3 a4 a5 e0 e1 e2 e3 e4 e5
          have hfin := (((((z6.set0 0).set1 ⟨#[]⟩).set2 ⟨#[]⟩).set3 0).set4 0).set5 ⟨#[]⟩
          obtain ⟨v0, v1, v2, v3, v4, v5, g0, g1, g2, g3, g4, g5, vl⟩ := z6
          go_wp2_with (fail)
          refine bodyPost_ret (res_rget hfin rfl rfl) rfl (get_bad w s hz' _ ?_)
          exact (((((hB6.setCell (Nat.le_refl _) _).setCell (Nat.le_refl _) _).setCell (Nat.le_refl _) _).setCell (Nat.le_refl _) _).setCell (Nat.le_refl _) _).setCell (Nat.le_refl _) _
        | true =>
          have hz' : Hid (getC s = x ∧ getE s = 0) := Lib.hid (hgx (by rw [hgs, hd]))
          have t7 : ((putL x).toList == s.toList) = true := by rw [toL_eq]; exact hd
          have t8 : ((putL x).toList != s.toList) = false := by rw [bne, t7]; rfl
          clear hgs hgx hd
          generalize putL x = pl at *
          go_wp2_with (fail)
          refine (kp _).mono ?_
          rintro e w6 ⟨rfl, b6⟩
          have z6 := hz.below b6 (by omega)
          have c6 := hc.below b6 hc.lt
          have hB6 := hB.trans (b6.mono hBs)
          clear hz a0 a1 a2 a3 a4 a5 e0 e1 e2 e3 e4 e5
          have hfin := (((((z6.set0 x.op).set1 x.n).set2 x.o).set3 x.a).set4 x.c).set5 x.d
          obtain ⟨v0, v1, v2, v3, v4, v5, g0, g1, g2, g3, g4, g5, vl⟩ := z6
          obtain ⟨a0, a1, a2, a3, a4, a5, e0, e1, e2, e3, e4, e5, al⟩ := c6
          go_wp2_with (fail)
          refine bodyPost_ret (res_rget hfin rfl rfl) rfl ⟨by rw [hz'.out.1, hz'.out.2], ?_⟩
          exact (((((hB6.setCell (Nat.le_refl _) _).setCell (Nat.le_refl _) _).setCell (Nat.le_refl _) _).setCell (Nat.le_refl _) _).setCell (Nat.le_refl _) _).setCell (Nat.le_refl _) _
end Go.Proofs.YtjbekphjhmlloaaDoor
