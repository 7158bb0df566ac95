/- rack: whether a slot can be asked; acts. -/
import Derived.Test.YtofhmdbilhdblaaRackBase
namespace Go.Proofs.Ytofhmdbilhdblaa
open Go.RowKit
set_option linter.unusedVariables false
set_option linter.unusedSimpArgs false
set_option maxRecDepth 100000

def hasK (n : Nat) (s : Int) : Bool := decide (0 ≤ s) && decide (s < (n : Int))
theorem hasK_nat {n i : Nat} (h : i < n) : hasK n (i : Int) = true := by unfold hasK; rw [decide_eq_true (by omega), decide_eq_true (by omega)]; rfl
theorem hask_any {w : World} {S : Nat → Prop} {k n : Nat} {Λ : RLay} {M : Nat → Mst} {off : Bool} {acts armed : Int} (h : RBox w S k n Λ M off acts armed) (s : Int) :
    Calls Try.prog 74 #[.pointer (some ⟨k, 0, none⟩), .int .i64 s] w fun e w' => e = .returned (.bool (hasK n s)) ∧ w = w' := by
  have c0 := h.c0
  clear h
  unfold hasK
  by_cases h0 : 0 ≤ s
  · have t1 : decide (0 ≤ s) = true := decide_eq_true h0
    clear h0
    rw [t1, Bool.true_and]
    go_enter Try.func74, Try.ntmps74
    go_wp2
    go_ret
    exact ⟨rfl, rfl⟩
  · have t1 : decide (0 ≤ s) = false := decide_eq_false h0
    clear h0
    rw [t1, Bool.false_and]
    go_enter Try.func74, Try.ntmps74
    go_wp2
    go_ret
    exact ⟨rfl, rfl⟩
theorem slotsk_any {w : World} {S : Nat → Prop} {k n : Nat} {Λ : RLay} {M : Nat → Mst} {off : Bool} {acts armed : Int} (h : RBox w S k n Λ M off acts armed) :
    Calls Try.prog 70 #[.pointer (some ⟨k, 0, none⟩)] w fun e w' => e = .returned (.int .i64 (n : Int)) ∧ w = w' := by
  have c0 := h.c0
  clear h
  go_enter Try.func70, Try.ntmps70
  go_wp2
  go_ret
  exact ⟨rfl, rfl⟩
theorem actsk_any {w : World} {S : Nat → Prop} {k n : Nat} {Λ : RLay} {M : Nat → Mst} {off : Bool} {acts armed : Int} (h : RBox w S k n Λ M off acts armed) :
    Calls Try.prog 69 #[.pointer (some ⟨k, 0, none⟩)] w fun e w' => e = .returned (.int .i64 acts) ∧ w = w' := by
  have c2 := h.c2
  clear h
  go_enter Try.func69, Try.ntmps69
  go_wp2
  go_ret
  exact ⟨rfl, rfl⟩
theorem offk_any {w : World} {S : Nat → Prop} {k n : Nat} {Λ : RLay} {M : Nat → Mst} {off : Bool} {acts armed : Int} (h : RBox w S k n Λ M off acts armed) :
    Calls Try.prog 68 #[.pointer (some ⟨k, 0, none⟩)] w fun e w' => e = .returned (.bool off) ∧ w = w' := by
  have c1 := h.c1
  clear h
  go_enter Try.func68, Try.ntmps68
  go_wp2
  go_ret
  exact ⟨rfl, rfl⟩
theorem reach_no {w : World} {S : Nat → Prop} {k n : Nat} {Λ : RLay} {M : Nat → Mst} {off : Bool} {acts armed : Int} (h : RBox w S k n Λ M off acts armed) (s : Int) (hs : hasK n s = false) :
    Calls Try.prog 76 #[.pointer (some ⟨k, 0, none⟩), .int .i64 s] w fun e w' => e = .returned (.int .i64 91) ∧ w = w' := by
  have ch := hask_any h s
  rw [hs] at ch
  clear h hs
  go_enter Try.func76, Try.ntmps76
  go_wp2_with (fail)
  refine ch.mono ?_
  rintro e w' ⟨rfl, rfl⟩
  go_wp2
  go_ret
  exact ⟨rfl, rfl⟩
theorem reach_off {w : World} {S : Nat → Prop} {k n : Nat} {Λ : RLay} {M : Nat → Mst} {acts armed : Int} (h : RBox w S k n Λ M true acts armed) (i : Nat) (hi : i < n) :
    Calls Try.prog 76 #[.pointer (some ⟨k, 0, none⟩), .int .i64 (i : Int)] w fun e w' => e = .returned (.int .i64 90) ∧ w = w' := by
  have ch := hask_any h i
  rw [hasK_nat hi] at ch
  have c1 := h.c1
  clear h hi
  go_enter Try.func76, Try.ntmps76
  go_wp2_with (fail)
  refine ch.mono ?_
  rintro e w' ⟨rfl, rfl⟩
  go_wp2
  go_ret
  exact ⟨rfl, rfl⟩
theorem reach_on {w : World} {S : Nat → Prop} {k n : Nat} {Λ : RLay} {M : Nat → Mst} {acts armed : Int} (h : RBox w S k n Λ M false acts armed) (i : Nat) (hi : i < n) :
    Calls Try.prog 76 #[.pointer (some ⟨k, 0, none⟩), .int .i64 (i : Int)] w fun e w' => e = .returned (.int .i64 0) ∧ w = w' := by
  have ch := hask_any h i
  rw [hasK_nat hi] at ch
  have c1 := h.c1
  clear h hi
  go_enter Try.func76, Try.ntmps76
  go_wp2_with (fail)
  refine ch.mono ?_
  rintro e w' ⟨rfl, rfl⟩
  go_wp2
  go_ret
  exact ⟨rfl, rfl⟩
theorem act_off {w : World} {S : Nat → Prop} {k n : Nat} {Λ : RLay} {M : Nat → Mst} {acts armed : Int} (h : RBox w S k n Λ M true acts armed) (i : Nat) (hi : i < n) :
    Calls Try.prog 72 #[.pointer (some ⟨k, 0, none⟩), .int .i64 (i : Int)] w fun e w' => e = .returned (.int .i64 90) ∧ w = w' := by
  have ch := reach_off h i hi
  clear h hi
  go_enter Try.func72, Try.ntmps72
  go_wp2_with (fail)
  refine ch.mono ?_
  rintro e w' ⟨rfl, rfl⟩
  go_wp2
  go_ret
  exact ⟨rfl, rfl⟩
theorem act_no {w : World} {S : Nat → Prop} {k n : Nat} {Λ : RLay} {M : Nat → Mst} {off : Bool} {acts armed : Int} (h : RBox w S k n Λ M off acts armed) (s : Int) (hs : hasK n s = false) :
    Calls Try.prog 72 #[.pointer (some ⟨k, 0, none⟩), .int .i64 s] w fun e w' => e = .returned (.int .i64 91) ∧ w = w' := by
  have ch := reach_no h s hs
  clear h hs
  go_enter Try.func72, Try.ntmps72
  go_wp2_with (fail)
  refine ch.mono ?_
  rintro e w' ⟨rfl, rfl⟩
  go_wp2
  go_ret
  exact ⟨rfl, rfl⟩
/-- How many acts are left behind one. -/
def nxt (a : Int) : Int := if a = 0 then 0 else a - 1
/-- What an act leaves. -/
def ActM (w : World) (S : Nat → Prop) (k n : Nat) (Λ : RLay) (M : Nat → Mst) (off : Bool) (acts armed : Int) (u : Int) (e : Ending) (w' : World) : Prop := e = .returned (.int .i64 u) ∧ Stp S S w w' ∧ RBox w' S k n Λ M off acts armed
theorem act_0 {w : World} {S : Nat → Prop} {k n : Nat} {Λ : RLay} {M : Nat → Mst} {acts : Int} (h : RBox w S k n Λ M false acts 0) (i : Nat) (hi : i < n) (ha : 0 ≤ acts ∧ acts ≤ 1000000000000) :
    Calls Try.prog 72 #[.pointer (some ⟨k, 0, none⟩), .int .i64 (i : Int)] w (ActM w S k n Λ M false (acts + 1) 0 0) := by
  have ch := reach_on h i hi
  have c2 := h.c2
  have f2 := h.f 2
  obtain ⟨h1, s1⟩ := h.setK 2 (.int .i64 (acts + 1)) false (acts + 1) 0 rfl
  have c3 := h1.c3
  have ch1 := reach_on h1 i hi
  have wa : IntKind.i64.wrap (acts + 1) = acts + 1 := wrap_in (by omega) (by omega)
  have hfin := Lib.hid (And.intro s1 h1)
  clear h h1 s1 hi ha
  go_enter Try.func72, Try.ntmps72
  go_wp2_with (fail)
  refine ch.mono ?_
  rintro e w' ⟨rfl, rfl⟩
  go_wp2_with (fail)
  refine ch1.mono ?_
  rintro e w' ⟨rfl, rfl⟩
  go_wp2_with (fail)
  go_ret
  exact ⟨rfl, hfin.out⟩
theorem act_n {w : World} {S : Nat → Prop} {k n : Nat} {Λ : RLay} {M : Nat → Mst} {acts armed : Int} (h : RBox w S k n Λ M false acts armed) (i : Nat) (hi : i < n) (ha : 0 ≤ acts ∧ acts ≤ 1000000000000) (hb : 0 < armed ∧ armed ≤ 9000000000000000000) :
    Calls Try.prog 72 #[.pointer (some ⟨k, 0, none⟩), .int .i64 (i : Int)] w (ActM w S k n Λ M (armed == 1) (acts + 1) (armed - 1) (if armed = 1 then 90 else 0)) := by
  have ch := reach_on h i hi
  have c2 := h.c2
  have f2 := h.f 2
  obtain ⟨h1, s1⟩ := h.setK 2 (.int .i64 (acts + 1)) false (acts + 1) armed rfl
  have c3 := h1.c3
  have f3 := h1.f 3
  obtain ⟨h2, s2⟩ := h1.setK 3 (.int .i64 (armed - 1)) false (acts + 1) (armed - 1) rfl
  have c32 := h2.c3
  have c1 := h2.c1
  have f1 := h2.f 1
  obtain ⟨h3, s3⟩ := h2.setK 1 (.bool (armed == 1)) (armed == 1) (acts + 1) (armed - 1) rfl
  have wa : IntKind.i64.wrap (acts + 1) = acts + 1 := wrap_in (by omega) (by omega)
  have wb : IntKind.i64.wrap (armed - 1) = armed - 1 := wrap_in (by omega) (by omega)
  have hz : (armed - 1 == 0) = (armed == 1) := by
    by_cases e : armed = 1
    · subst e; rfl
    · rw [beq_eq_false_iff_ne.2 e, beq_eq_false_iff_ne.2 (by omega)]
  have hfin := Lib.hid (And.intro (s1.trans (s2.trans s3)) h3)
  have hb0 := hb.1
  by_cases e1 : armed = 1
  · have q1 : (armed == 1) = true := by rw [e1]; rfl
    rw [q1] at hz hfin h3
    rw [if_pos e1, q1]
    have ch1 := reach_off h3 i hi
    clear h h1 h2 h3 s1 s2 s3 hi ha hb e1 q1
    go_enter Try.func72, Try.ntmps72
    go_wp2_with (fail)
    refine ch.mono ?_
    rintro e w' ⟨rfl, rfl⟩
    go_wp2_with (fail)
    refine ch1.mono ?_
    rintro e w' ⟨rfl, rfl⟩
    go_wp2_with (fail)
    go_ret
    exact ⟨rfl, hfin.out⟩
  · have q1 : (armed == 1) = false := beq_eq_false_iff_ne.2 e1
    rw [q1] at hz hfin h3
    rw [if_neg e1, q1]
    have ch1 := reach_on h3 i hi
    clear h h1 h2 h3 s1 s2 s3 hi ha hb e1 q1
    go_enter Try.func72, Try.ntmps72
    go_wp2_with (fail)
    refine ch.mono ?_
    rintro e w' ⟨rfl, rfl⟩
    go_wp2_with (fail)
    refine ch1.mono ?_
    rintro e w' ⟨rfl, rfl⟩
    go_wp2_with (fail)
    go_ret
    exact ⟨rfl, hfin.out⟩
end Go.Proofs.Ytofhmdbilhdblaa
