/- count: the document's own table. -/
import Derived.Test.YtbfdjlibhinkiaaCntLaw2
namespace Go.Proofs.Ytbfdjlibhinkiaa
open Go.RowKit
set_option linter.unusedVariables false
set_option linter.unusedSimpArgs false

/-- The document's own table at block p, its counts at block h. -/
structure RTab (w : World) (p h n : Nat) (C : Nat → Nat) : Prop where
  pc : w.cell? ⟨p, 0, none⟩ = some (.slice (some ⟨h, 0, none⟩) n n)
  pl : p < w.heap.size
  o : Own w 0 3 (.slice (some ⟨h, 0, none⟩) n n) (oRow n C)
  ne : h < p
theorem RTab.c {w : World} {p h n : Nat} {C : Nat → Nat} (t : RTab w p h n C) (i : Nat) (hi : i < n) : w.cell? ⟨h, i, none⟩ = some (.int .i64 ((C i : Nat) : Int)) := by
  have := t.o.cell (i := i) (by rw [oRow, rowV_len]; exact hi)
  rwa [oRow, rowV_get _ _ _ hi] at this
theorem RTab.f {w : World} {p h n : Nat} {C : Nat → Nat} (t : RTab w p h n C) (i : Nat) : w.frozen? ⟨h, i, none⟩ = false := t.o.frozen i
theorem RTab.hl {w : World} {p h n : Nat} {C : Nat → Nat} (t : RTab w p h n C) : h < w.heap.size := Nat.lt_trans t.ne t.pl
theorem RTab.heap {w w' : World} {p h n : Nat} {C : Nat → Nat} (t : RTab w p h n C) (e1 : w'.heap[p]? = w.heap[p]?) (e2 : w'.heap[h]? = w.heap[h]?) (hs : w.heap.size ≤ w'.heap.size) : RTab w' p h n C :=
  ⟨by simp only [World.cell?, e1]; exact t.pc, Nat.lt_of_lt_of_le t.pl hs, t.o.sameBlock e2, t.ne⟩
theorem RTab.below {w w' : World} {B p h n : Nat} {C : Nat → Nat} (t : RTab w p h n C) (hb : Below B w w') (hp : p < B) : RTab w' p h n C :=
  t.heap (hb.block p hp) (hb.block h (Nat.lt_trans t.ne hp)) hb.size
theorem RTab.drewN {w : World} {p h n : Nat} {C : Nat → Nat} (t : RTab w p h n C) (k : Nat) : RTab (w.drewN k) p h n C := t.heap rfl rfl (Nat.le_refl _)
theorem RTab.drew {w : World} {p h n : Nat} {C : Nat → Nat} (t : RTab w p h n C) : RTab w.drew p h n C := t.heap rfl rfl (Nat.le_refl _)
theorem RTab.set {w : World} {p h n : Nat} {C : Nat → Nat} (t : RTab w p h n C) (i v : Nat) : RTab (w.setCell ⟨h, i, none⟩ (.int .i64 (v : Int))) p h n (upd C i v) := by
  have ho := t.o.set i (.int .i64 (v : Int))
  rw [oRow_set] at ho
  have hne : p ≠ h := by have := t.ne; omega
  exact ⟨by rw [World.cell?_setCell_other w _ _ _ (by simp)]; exact t.pc, by simpa using t.pl, ho, t.ne⟩
structure RTo (w : World) (p h n : Nat) (C : Nat → Nat) (w' : World) : Prop where
  keep : ∀ B, B ≤ h → B ≤ w.heap.size → Below B w w'
  oth : ∀ k, k < w.heap.size → k ≠ h → w'.heap[k]? = w.heap[k]?
  sz : w.heap.size ≤ w'.heap.size
  t : RTab w' p h n C
theorem RTab.setTo {w : World} {p h n : Nat} {C : Nat → Nat} (t : RTab w p h n C) (i v : Nat) : RTo w p h n (upd C i v) (w.setCell ⟨h, i, none⟩ (.int .i64 (v : Int))) :=
  ⟨fun B h1 _ => (Below.refl B w).setCell (p := ⟨h, i, none⟩) h1 _, fun k _ hne => Below.heap_setCell _ _ _ _ (by simpa using hne), by simp, t.set i v⟩
def RMade (w : World) (n : Nat) (C : Nat → Nat) (e : Ending) (w' : World) : Prop := ∃ p h, e = .returned (.tuple #[.pointer (some ⟨p, 0, none⟩), .int .i64 0]) ∧ w.heap.size ≤ h ∧ Below w.heap.size w w' ∧ RTab w' p h n C
theorem rt_info : (Try.prog.info? 57).map (fun i => (i.zero, i.size)) = some (some (.agg #[.slice none 0 0]), 1) := by kernel_rfl
set_option maxRecDepth 100000 in
set_option maxHeartbeats 1000000 in
theorem rnew_good (n : Nat) (w : World) (h1 : 8 ≤ n) (h2 : n ≤ 200) : Calls Try.prog 10 #[.int .i64 (n : Int)] w (RMade w n cnt0) := by
  have t1 : decide ((n : Int) < 8) = false := by rw [decide_eq_false_iff_not]; omega
  have t2 : decide ((200 : Int) < (n : Int)) = false := by rw [decide_eq_false_iff_not]; omega
  obtain ⟨ib, hi, hz0, hz1, hz2⟩ := info_parts Try.infoI
  obtain ⟨w4, hmk, o4, b4⟩ := Own.make_run (P := Try.prog) (T := 45) Try.underlying45 hi hz0 hz1 hz2 rfl w n (by omega) (by omega)
  rw [rowV_rep] at o4
  obtain ⟨h, hh⟩ : ∃ h, w.heap.size = h := ⟨_, rfl⟩
  rw [hh] at o4 hmk
  have hhl := o4.lt.2
  have hZ : Hid (rowV n (fun _ => Value.int .i64 0) = oRow n (cntK 0)) := Lib.hid rfl
  rw [hZ.out] at o4
  have e3 : Hid (cntK 3 = cnt0) := Lib.hid rfl
  have HH := Lib.hid hh
  have hhw : w.heap.size ≤ h := by omega
  have hM : ∀ T, RTab (w4.alloc (.cells #[.slice (some ⟨h, 0, none⟩) n n] T)) w4.heap.size h n (cntK 0) := fun T =>
    ⟨by rw [World.cell?_alloc_mark]; rfl, by simp, ((o4.mono (Nat.zero_le _)).alloc _), hhl⟩
  have hB4 : ∀ T, Below w.heap.size w (w4.alloc (.cells #[.slice (some ⟨h, 0, none⟩) n n] T)) := fun T => b4.alloc b4.size _
  clear hh o4 b4
  go_enter Try.func10, Try.ntmps10
  go_wp2_with (fail)
  have hM := hM 57
  have hB4 := hB4 57
  obtain ⟨p, hp⟩ : ∃ p, w4.heap.size = p := ⟨_, rfl⟩
  rw [hp] at hM
  try rw [hp]
  generalize hw5 : w4.alloc (.cells #[.slice (some ⟨h, 0, none⟩) n n] 57) = w5 at *
  clear hw5 hp hmk hhl
  go_loopw [5] (fun t wr => ∃ k : Nat, k ≤ 3 ∧ t = .int .i64 (k : Int) ∧ Below w.heap.size w wr ∧ RTab wr p h n (cntK k)) (fun t _ => 3 - (intOf t).toNat)
  case atStart => exact ⟨0, by omega, rfl, hB4, hM⟩
  case round =>
    obtain ⟨k, hk, rfl, hBk, hTk⟩ := hrel
    by_cases hlt : k < 3
    · have t3 : (k : Int) < 3 := by omega
      have pc := hTk.pc
      have c := hTk.c k (by omega)
      have f := hTk.f k
      have hn := hTk.set k 1
      rw [cntK_succ] at hn
      have kn : (k : Int) < (n : Int) := by omega
      go_wp2_with (fail)
      go_roundw
      case rel => exact ⟨k + 1, by omega, by go_num, hBk.setCell (p := ⟨h, k, none⟩) hhw _, hn⟩
      case measure => simp [intOf]; omega
    · obtain rfl : k = 3 := by omega
      rw [e3.out] at hTk
      go_wp2_with (fail)
      go_ret2
      exact ⟨p, h, rfl, hhw, hBk, hTk⟩
theorem rnew_bad (n : Int) (w : World) (h : n < 8 ∨ 200 < n) : Calls Try.prog 10 #[.int .i64 n] w fun e w' => e = .returned (.tuple #[.pointer none, .int .i64 1]) ∧ w = w' := by
  by_cases h1 : n < 8
  · have t1 : decide (n < 8) = true := decide_eq_true h1
    clear h h1
    go_enter Try.func10, Try.ntmps10
    go_wp2
    go_ret2
    exact ⟨rfl, rfl⟩
  · have t1 : decide (n < 8) = false := decide_eq_false h1
    have t2 : decide (200 < n) = true := decide_eq_true (by omega)
    clear h h1
    go_enter Try.func10, Try.ntmps10
    go_wp2
    go_ret2
    exact ⟨rfl, rfl⟩
theorem rcount_any (p h n : Nat) (C : Nat → Nat) (b : Int) (w : World) (t : RTab w p h n C) (hS : Small n C) : Calls Try.prog 20 #[.pointer (some ⟨p, 0, none⟩), .int .i64 b] w fun e w' => e = .returned (.int .i64 ((cntV n C b : Nat) : Int)) ∧ w = w' := by
  have pc := t.pc
  by_cases h0 : b < 0
  · have t0 : decide (b < 0) = true := decide_eq_true h0
    have hz : Hid (cntV n C b = 0) := Lib.hid (if_neg (by omega))
    clear h0
    go_enter Try.func20, Try.ntmps20
    go_wp2
    go_ret
    exact ⟨by rw [hz.out]; rfl, rfl⟩
  · have t0 : decide (b < 0) = false := decide_eq_false h0
    obtain ⟨i, rfl⟩ := Int.eq_ofNat_of_zero_le (show 0 ≤ b by omega)
    by_cases h1 : n ≤ i
    · have t1 : decide ((n : Int) ≤ (i : Int)) = true := by rw [decide_eq_true_eq]; omega
      have t1' : decide (n ≤ i) = true := decide_eq_true h1
      have hz : Hid (cntV n C (i : Int) = 0) := Lib.hid (if_neg (by omega))
      clear h0 h1
      go_enter Try.func20, Try.ntmps20
      go_wp2
      go_ret
      exact ⟨by rw [hz.out]; rfl, rfl⟩
    · have t1 : decide ((n : Int) ≤ (i : Int)) = false := by rw [decide_eq_false_iff_not]; omega
      have t1' : decide (n ≤ i) = false := decide_eq_false h1
      have hz : Hid (cntV n C (i : Int) = C i) := Lib.hid (by rw [cntV, if_pos (by omega)]; rfl)
      have c := t.c i (by omega)
      have hin : (i : Int) < (n : Int) := by omega
      clear h0 h1
      generalize C i = x at *
      go_enter Try.func20, Try.ntmps20
      go_wp2
      go_ret
      exact ⟨by rw [hz.out]; rfl, rfl⟩
set_option maxHeartbeats 1000000 in
theorem rused_any (p h n : Nat) (C : Nat → Nat) (w : World) (t : RTab w p h n C) (hS : Small n C) : Calls Try.prog 22 #[.pointer (some ⟨p, 0, none⟩)] w fun e w' => e = .returned (.int .i64 ((usedTo C 240 : Nat) : Int)) ∧ w = w' := by
  have pc := t.pc
  have n2 := hS.n200
  have hend : Hid (usedTo C n = usedTo C 240) := Lib.hid (by
    have key : ∀ d, usedTo C (n + d) = usedTo C n := by
      intro d
      induction d with
      | zero => rfl
      | succ d ih => rw [← Nat.add_assoc, used_succ, hS.z (n + d) (by omega), ih]; rfl
    have := key (240 - n)
    rw [show n + (240 - n) = 240 by omega] at this
    exact this.symm)
  go_enter Try.func22, Try.ntmps22
  go_wp2_with (fail)
  go_loopw [3, 4] (fun u t wr => ∃ k : Nat, k ≤ n ∧ t = .int .i64 (k : Int) ∧ u = .int .i64 ((usedTo C k : Nat) : Int) ∧ wr = w) (fun _ t _ => n - (intOf t).toNat)
  case atStart => exact ⟨0, by omega, rfl, rfl, (by first | rfl | trivial)⟩
  case round =>
    obtain ⟨k, hk, rfl, rfl, rfl⟩ := hrel
    have hu := used_le C k
    by_cases hlt : k < n
    · have t1 : (k : Int) < (n : Int) := by omega
      have c := t.c k hlt
      have HS := Lib.hid (used_succ C k)
      by_cases hp : 0 < C k
      · have t2 : decide ((0 : Int) < ((C k : Nat) : Int)) = true := by rw [decide_eq_true_eq]; omega
        have t2' : decide (0 < C k) = true := decide_eq_true hp
        have HE : Hid (usedTo C (k + 1) = usedTo C k + 1) := Lib.hid (by rw [HS.out, if_pos hp])
        clear HS
        generalize usedTo C k = u at *
        go_wp2_with (fail)
        go_roundw
        case rel => exact ⟨k + 1, by omega, by go_num, by rw [HE.out]; go_num, (by first | rfl | trivial)⟩
        case measure => simp [intOf]; omega
      · have t2' : C k = 0 := by omega
        have HE : Hid (usedTo C (k + 1) = usedTo C k) := Lib.hid (by rw [HS.out, if_neg hp]; rfl)
        clear HS hp
        rw [t2', show ((0 : Nat) : Int) = 0 from rfl] at c
        clear t2'
        generalize usedTo C k = u at *
        go_wp2_with (fail)
        go_roundw
        case rel => exact ⟨k + 1, by omega, by go_num, by rw [HE.out], (by first | rfl | trivial)⟩
        case measure => simp [intOf]; omega
    · obtain rfl : k = n := by omega
      rw [hend.out]
      go_wp2
      go_ret
      exact ⟨rfl, rfl⟩
theorem rfree_any (p h n : Nat) (C : Nat → Nat) (w : World) (t : RTab w p h n C) (hS : Small n C) : Calls Try.prog 24 #[.pointer (some ⟨p, 0, none⟩)] w fun e w' => e = .returned (.int .i64 ((n : Int) - ((usedTo C 240 : Nat) : Int))) ∧ ∃ k, w' = w.drewN k := by
  have pc := t.pc
  have hu := used_le C 240
  have n2 := hS.n200
  have hx := fun w t => rused_any p h n C w t hS
  have hw : IntKind.i64.wrap ((n : Int) - ((usedTo C 240 : Nat) : Int)) = (n : Int) - ((usedTo C 240 : Nat) : Int) := IntWalk.i64_in _ ⟨by omega, by omega⟩
  generalize usedTo C 240 = u at *
  have hT := fun k => t.drewN k
  go_enter Try.func24, Try.ntmps24
  go_wp2_with (fail)
  go_quiet ((go_at_call 22; exact Calls.quiet_of_same ((hx _ (hT _)).mono fun _ _ h => ⟨h.1, h.2.symm⟩)))
  go_wp2
  go_ret
  exact ⟨rfl, _, rfl⟩
theorem rblocks_any (p h n : Nat) (C : Nat → Nat) (w : World) (t : RTab w p h n C) : Calls Try.prog 26 #[.pointer (some ⟨p, 0, none⟩)] w fun e w' => e = .returned (.int .i64 (n : Int)) ∧ w = w' := by
  have pc := t.pc
  go_enter Try.func26, Try.ntmps26
  go_wp2
  go_ret
  exact ⟨rfl, rfl⟩
def GetsR (w : World) (p h n : Nat) (C : Nat → Nat) (v : Value) (e : Ending) (w' : World) : Prop := e = .returned v ∧ RTo w p h n C w'
set_option maxHeartbeats 1000000 in
theorem ralloc_some (p h n : Nat) (C : Nat → Nat) (w : World) (t : RTab w p h n C) (hS : Small n C) (k : Nat) (hk : k < n) (h0 : C k = 0) (hl : ∀ j, j < k → C j ≠ 0) :
    Calls Try.prog 13 #[.pointer (some ⟨p, 0, none⟩)] w (GetsR w p h n (upd C k 1) (.tuple #[.int .i64 (k : Int), .int .i64 0])) := by
  have pc := t.pc
  have n2 := hS.n200
  have hT := t.setTo k 1
  have HL := Lib.hid hl
  have H0 := Lib.hid h0
  clear hl h0
  go_enter Try.func13, Try.ntmps13
  go_wp2
  go_loopw [4] (fun t wr => ∃ i : Nat, i ≤ k ∧ t = .int .i64 (i : Int) ∧ wr = w) (fun t _ => k - (intOf t).toNat)
  case atStart => exact ⟨0, by omega, rfl, (by first | rfl | trivial)⟩
  case round =>
    obtain ⟨i, hi, rfl, rfl⟩ := hrel
    have t1 : (i : Int) < (n : Int) := by omega
    have c := t.c i (by omega)
    have hf := t.f i
    by_cases hik : i = k
    · subst hik
      rw [H0.out, show ((0 : Nat) : Int) = 0 from rfl] at c
      go_wp2
      go_ret2
      exact ⟨rfl, hT⟩
    · have hne : (((C i : Nat) : Int) == 0) = false := by rw [beq_eq_false_iff_ne]; have := HL.out i (by omega); omega
      generalize C i = x at *
      go_wp2
      go_roundw
      case rel => exact ⟨i + 1, by omega, by go_num, (by first | rfl | trivial)⟩
      case measure => simp [intOf]; omega
set_option maxHeartbeats 1000000 in
theorem ralloc_none (p h n : Nat) (C : Nat → Nat) (w : World) (t : RTab w p h n C) (hS : Small n C) (hl : ∀ j, j < n → C j ≠ 0) :
    Calls Try.prog 13 #[.pointer (some ⟨p, 0, none⟩)] w fun e w' => e = .returned (.tuple #[.int .i64 0, .int .i64 160]) ∧ w = w' := by
  have pc := t.pc
  have n2 := hS.n200
  have HL := Lib.hid hl
  clear hl
  go_enter Try.func13, Try.ntmps13
  go_wp2
  go_loopw [4] (fun t wr => ∃ i : Nat, i ≤ n ∧ t = .int .i64 (i : Int) ∧ wr = w) (fun t _ => n - (intOf t).toNat)
  case atStart => exact ⟨0, by omega, rfl, (by first | rfl | trivial)⟩
  case round =>
    obtain ⟨i, hi, rfl, rfl⟩ := hrel
    by_cases hin : i < n
    · have t1 : (i : Int) < (n : Int) := by omega
      have c := t.c i (by omega)
      have hne : (((C i : Nat) : Int) == 0) = false := by rw [beq_eq_false_iff_ne]; have := HL.out i (by omega); omega
      generalize C i = x at *
      go_wp2
      go_roundw
      case rel => exact ⟨i + 1, by omega, by go_num, (by first | rfl | trivial)⟩
      case measure => simp [intOf]; omega
    · obtain rfl : i = n := by omega
      go_wp2
      go_ret2
      exact ⟨rfl, rfl⟩
theorem rinc_none (p h n : Nat) (C : Nat → Nat) (b : Int) (w : World) (t : RTab w p h n C) (hS : Small n C) (hc : cntdB n C b = false) : Calls Try.prog 15 #[.pointer (some ⟨p, 0, none⟩), .int .i64 b] w fun e w' => e = .returned (.int .i64 161) ∧ w = w' := by
  have hx := rcount_any p h n C b w t hS
  by_cases h3 : b < 3
  · have t3 : decide (b < 3) = true := decide_eq_true h3
    clear h3 hc
    go_enter Try.func15, Try.ntmps15
    go_wp2_with (fail)
    go_ret
    exact ⟨rfl, rfl⟩
  · have t3 : decide (b < 3) = false := decide_eq_false h3
    have hv : cntV n C b = 0 := by
      unfold cntdB at hc; rw [decide_eq_false_iff_not] at hc
      rcases Nat.eq_zero_or_pos (cntV n C b) with h | h
      · exact h
      · exact absurd ⟨by omega, h⟩ hc
    rw [hv, show ((0 : Nat) : Int) = 0 from rfl] at hx
    clear h3 hc hv
    go_enter Try.func15, Try.ntmps15
    go_wp2_with (fail)
    refine hx.mono ?_
    rintro e w' ⟨rfl, rfl⟩
    go_wp2_with (fail)
    go_ret
    exact ⟨rfl, rfl⟩
theorem rdec_none (p h n : Nat) (C : Nat → Nat) (b : Int) (w : World) (t : RTab w p h n C) (hS : Small n C) (hc : cntdB n C b = false) : Calls Try.prog 17 #[.pointer (some ⟨p, 0, none⟩), .int .i64 b] w fun e w' => e = .returned (.tuple #[.int .i64 0, .int .i64 161]) ∧ w = w' := by
  have hx := rcount_any p h n C b w t hS
  by_cases h3 : b < 3
  · have t3 : decide (b < 3) = true := decide_eq_true h3
    clear h3 hc
    go_enter Try.func17, Try.ntmps17
    go_wp2_with (fail)
    go_ret2
    exact ⟨rfl, rfl⟩
  · have t3 : decide (b < 3) = false := decide_eq_false h3
    have hv : cntV n C b = 0 := by
      unfold cntdB at hc; rw [decide_eq_false_iff_not] at hc
      rcases Nat.eq_zero_or_pos (cntV n C b) with h | h
      · exact h
      · exact absurd ⟨by omega, h⟩ hc
    rw [hv, show ((0 : Nat) : Int) = 0 from rfl] at hx
    clear h3 hc hv
    go_enter Try.func17, Try.ntmps17
    go_wp2_with (fail)
    refine hx.mono ?_
    rintro e w' ⟨rfl, rfl⟩
    go_wp2_with (fail)
    go_ret2
    exact ⟨rfl, rfl⟩
theorem rinc_most (p h n : Nat) (C : Nat → Nat) (i : Nat) (w : World) (t : RTab w p h n C) (hS : Small n C) (h3 : 3 ≤ i) (hn : i < n) (hc : C i = 255) : Calls Try.prog 15 #[.pointer (some ⟨p, 0, none⟩), .int .i64 (i : Int)] w fun e w' => e = .returned (.int .i64 162) ∧ w = w' := by
  have hx := rcount_any p h n C (i : Int) w t hS
  rw [show cntV n C (i : Int) = C i from by rw [cntV, if_pos (by omega)]; rfl] at hx
  have t3 : decide ((i : Int) < 3) = false := by rw [decide_eq_false_iff_not]; omega
  have t3' : decide (i < 3) = false := by rw [decide_eq_false_iff_not]; omega
  have pc := t.pc
  have c := t.c i (by omega)
  have f := t.f i
  have hin : (i : Int) < (n : Int) := by omega
  rw [hc, show ((255 : Nat) : Int) = 255 from rfl] at hx c
  clear hc
  go_enter Try.func15, Try.ntmps15
  go_wp2_with (fail)
  refine hx.mono ?_
  rintro e w' ⟨rfl, rfl⟩
  go_wp2_with (fail)
  go_ret
  exact ⟨rfl, rfl⟩
set_option maxHeartbeats 1000000 in
theorem rinc_good (p h n : Nat) (C : Nat → Nat) (i : Nat) (w : World) (t : RTab w p h n C) (hS : Small n C) (h3 : 3 ≤ i) (hn : i < n) (hp : 0 < C i) (hc : C i < 255) : Calls Try.prog 15 #[.pointer (some ⟨p, 0, none⟩), .int .i64 (i : Int)] w (GetsR w p h n (upd C i (C i + 1)) (.int .i64 0)) := by
  have hx := rcount_any p h n C (i : Int) w t hS
  rw [show cntV n C (i : Int) = C i from by rw [cntV, if_pos (by omega)]; rfl] at hx
  have t3 : decide ((i : Int) < 3) = false := by rw [decide_eq_false_iff_not]; omega
  have t3' : decide (i < 3) = false := by rw [decide_eq_false_iff_not]; omega
  have pc := t.pc
  have c := t.c i (by omega)
  have f := t.f i
  have hin : (i : Int) < (n : Int) := by omega
  have hT := t.setTo i (C i + 1)
  rw [show ((C i + 1 : Nat) : Int) = ((C i : Nat) : Int) + 1 by omega] at hT
  have hne : (((C i : Nat) : Int) == 255) = false := by rw [beq_eq_false_iff_ne]; omega
  have hne0 : (((C i : Nat) : Int) == 0) = false := by rw [beq_eq_false_iff_ne]; omega
  have hb : ((C i : Nat) : Int) ≤ 255 := by omega
  obtain ⟨D, hD⟩ : ∃ D, upd C i (C i + 1) = D := ⟨_, rfl⟩
  rw [hD] at hT
  rw [hD]
  clear hD hp hc
  generalize C i = x at *
  go_enter Try.func15, Try.ntmps15
  go_wp2_with (fail)
  refine hx.mono ?_
  rintro e w' ⟨rfl, rfl⟩
  go_wp2_with (fail)
  go_ret
  exact ⟨rfl, hT⟩
set_option maxHeartbeats 1000000 in
theorem rdec_good (p h n : Nat) (C : Nat → Nat) (i : Nat) (w : World) (t : RTab w p h n C) (hS : Small n C) (h3 : 3 ≤ i) (hn : i < n) (hp : 0 < C i) : Calls Try.prog 17 #[.pointer (some ⟨p, 0, none⟩), .int .i64 (i : Int)] w (GetsR w p h n (upd C i (C i - 1)) (.tuple #[.int .i64 ((C i - 1 : Nat) : Int), .int .i64 0])) := by
  have hx := rcount_any p h n C (i : Int) w t hS
  rw [show cntV n C (i : Int) = C i from by rw [cntV, if_pos (by omega)]; rfl] at hx
  have t3 : decide ((i : Int) < 3) = false := by rw [decide_eq_false_iff_not]; omega
  have t3' : decide (i < 3) = false := by rw [decide_eq_false_iff_not]; omega
  have pc := t.pc
  have c := t.c i (by omega)
  have f := t.f i
  have hin : (i : Int) < (n : Int) := by omega
  have hT := t.setTo i (C i - 1)
  have hb : ((C i : Nat) : Int) ≤ 255 := by have := hS.c i; omega
  rw [show ((C i - 1 : Nat) : Int) = ((C i : Nat) : Int) - 1 by omega] at hT
  rw [show ((C i - 1 : Nat) : Int) = ((C i : Nat) : Int) - 1 by omega]
  have hne0 : (((C i : Nat) : Int) == 0) = false := by rw [beq_eq_false_iff_ne]; omega
  have hp1 : (1 : Int) ≤ ((C i : Nat) : Int) := by omega
  have pc2 := hT.t.pc
  have c2 : (w.setCell ⟨h, i, none⟩ (.int .i64 (((C i : Nat) : Int) - 1))).cell? ⟨h, i, none⟩ = some (.int .i64 (((C i : Nat) : Int) - 1)) := World.cell?_setCell_same' w _ _ (by rw [c]; rfl)
  obtain ⟨D, hD⟩ : ∃ D, upd C i (C i - 1) = D := ⟨_, rfl⟩
  rw [hD] at hT
  rw [hD]
  clear hD hp
  generalize C i = x at *
  go_enter Try.func17, Try.ntmps17
  go_wp2_with (fail)
  refine hx.mono ?_
  rintro e w' ⟨rfl, rfl⟩
  go_wp2_with (fail)
  go_ret2
  exact ⟨rfl, hT⟩
end Go.Proofs.Ytbfdjlibhinkiaa
