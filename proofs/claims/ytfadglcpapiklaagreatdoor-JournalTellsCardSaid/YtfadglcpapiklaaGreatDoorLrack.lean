/- Lrack: what this claim reaches of RackAct, RackOps, RackNew and others. -/
import Derived.Test.YtfadglcpapiklaaGreatDoorLmem
import Derived.Test.YtfadglcpapiklaaGreatDoorLbase
section
namespace Go.Proofs.YtfadglcpapiklaaGreatDoor
open Go.RowKit
set_option linter.unusedVariables false
set_option linter.unusedSimpArgs false
set_option maxRecDepth 100000

def hasK (n : Nat) (s : Int) : Bool := decide (0 ≤ s) && decide (s < (n : Int))
theorem hasK_nat {n i : Nat} (h : i < n) : hasK n (i : Int) = true := by unfold hasK; rw [decide_eq_true (by omega), decide_eq_true (by omega)]; rfl
theorem hask_any {w : World} {S : Nat → Prop} {k n : Nat} {Λ : RLay} {M : Nat → Mst} {off : Bool} {acts armed : Int} (h : RBox w S k n Λ M off acts armed) (s : Int) :
    Calls Tryz.prog 51 #[.pointer (some ⟨k, 0, none⟩), .int .i64 s] w fun e w' => e = .returned (.bool (hasK n s)) ∧ w = w' := by
  have c0 := h.c0
  clear h
  unfold hasK
  by_cases h0 : 0 ≤ s
  · have t1 : decide (0 ≤ s) = true := decide_eq_true h0
    clear h0
    rw [t1, Bool.true_and]
    go_enter Tryz.func51, Tryz.ntmps51
    go_wp2
    go_ret
    exact ⟨rfl, rfl⟩
  · have t1 : decide (0 ≤ s) = false := decide_eq_false h0
    clear h0
    rw [t1, Bool.false_and]
    go_enter Tryz.func51, Tryz.ntmps51
    go_wp2
    go_ret
    exact ⟨rfl, rfl⟩
theorem slotsk_any {w : World} {S : Nat → Prop} {k n : Nat} {Λ : RLay} {M : Nat → Mst} {off : Bool} {acts armed : Int} (h : RBox w S k n Λ M off acts armed) :
    Calls Tryz.prog 43 #[.pointer (some ⟨k, 0, none⟩)] w fun e w' => e = .returned (.int .i64 (n : Int)) ∧ w = w' := by
  have c0 := h.c0
  clear h
  go_enter Tryz.func43, Tryz.ntmps43
  go_wp2
  go_ret
  exact ⟨rfl, rfl⟩
theorem actsk_any {w : World} {S : Nat → Prop} {k n : Nat} {Λ : RLay} {M : Nat → Mst} {off : Bool} {acts armed : Int} (h : RBox w S k n Λ M off acts armed) :
    Calls Tryz.prog 22 #[.pointer (some ⟨k, 0, none⟩)] w fun e w' => e = .returned (.int .i64 acts) ∧ w = w' := by
  have c2 := h.c2
  clear h
  go_enter Tryz.func22, Tryz.ntmps22
  go_wp2
  go_ret
  exact ⟨rfl, rfl⟩
theorem offk_any {w : World} {S : Nat → Prop} {k n : Nat} {Λ : RLay} {M : Nat → Mst} {off : Bool} {acts armed : Int} (h : RBox w S k n Λ M off acts armed) :
    Calls Tryz.prog 57 #[.pointer (some ⟨k, 0, none⟩)] w fun e w' => e = .returned (.bool off) ∧ w = w' := by
  have c1 := h.c1
  clear h
  go_enter Tryz.func57, Tryz.ntmps57
  go_wp2
  go_ret
  exact ⟨rfl, rfl⟩
theorem reach_no {w : World} {S : Nat → Prop} {k n : Nat} {Λ : RLay} {M : Nat → Mst} {off : Bool} {acts armed : Int} (h : RBox w S k n Λ M off acts armed) (s : Int) (hs : hasK n s = false) :
    Calls Tryz.prog 104 #[.pointer (some ⟨k, 0, none⟩), .int .i64 s] w fun e w' => e = .returned (.int .i64 91) ∧ w = w' := by
  have ch := hask_any h s
  rw [hs] at ch
  clear h hs
  go_enter Tryz.func104, Tryz.ntmps104
  go_wp2_with (fail)
  refine ch.mono ?_
  rintro e w' ⟨rfl, rfl⟩
  go_wp2
  go_ret
  exact ⟨rfl, rfl⟩
theorem reach_off {w : World} {S : Nat → Prop} {k n : Nat} {Λ : RLay} {M : Nat → Mst} {acts armed : Int} (h : RBox w S k n Λ M true acts armed) (i : Nat) (hi : i < n) :
    Calls Tryz.prog 104 #[.pointer (some ⟨k, 0, none⟩), .int .i64 (i : Int)] w fun e w' => e = .returned (.int .i64 90) ∧ w = w' := by
  have ch := hask_any h i
  rw [hasK_nat hi] at ch
  have c1 := h.c1
  clear h hi
  go_enter Tryz.func104, Tryz.ntmps104
  go_wp2_with (fail)
  refine ch.mono ?_
  rintro e w' ⟨rfl, rfl⟩
  go_wp2
  go_ret
  exact ⟨rfl, rfl⟩
theorem reach_on {w : World} {S : Nat → Prop} {k n : Nat} {Λ : RLay} {M : Nat → Mst} {acts armed : Int} (h : RBox w S k n Λ M false acts armed) (i : Nat) (hi : i < n) :
    Calls Tryz.prog 104 #[.pointer (some ⟨k, 0, none⟩), .int .i64 (i : Int)] w fun e w' => e = .returned (.int .i64 0) ∧ w = w' := by
  have ch := hask_any h i
  rw [hasK_nat hi] at ch
  have c1 := h.c1
  clear h hi
  go_enter Tryz.func104, Tryz.ntmps104
  go_wp2_with (fail)
  refine ch.mono ?_
  rintro e w' ⟨rfl, rfl⟩
  go_wp2
  go_ret
  exact ⟨rfl, rfl⟩
theorem act_off {w : World} {S : Nat → Prop} {k n : Nat} {Λ : RLay} {M : Nat → Mst} {acts armed : Int} (h : RBox w S k n Λ M true acts armed) (i : Nat) (hi : i < n) :
    Calls Tryz.prog 70 #[.pointer (some ⟨k, 0, none⟩), .int .i64 (i : Int)] w fun e w' => e = .returned (.int .i64 90) ∧ w = w' := by
  have ch := reach_off h i hi
  clear h hi
  go_enter Tryz.func70, Tryz.ntmps70
  go_wp2_with (fail)
  refine ch.mono ?_
  rintro e w' ⟨rfl, rfl⟩
  go_wp2
  go_ret
  exact ⟨rfl, rfl⟩
theorem act_no {w : World} {S : Nat → Prop} {k n : Nat} {Λ : RLay} {M : Nat → Mst} {off : Bool} {acts armed : Int} (h : RBox w S k n Λ M off acts armed) (s : Int) (hs : hasK n s = false) :
    Calls Tryz.prog 70 #[.pointer (some ⟨k, 0, none⟩), .int .i64 s] w fun e w' => e = .returned (.int .i64 91) ∧ w = w' := by
  have ch := reach_no h s hs
  clear h hs
  go_enter Tryz.func70, Tryz.ntmps70
  go_wp2_with (fail)
  refine ch.mono ?_
  rintro e w' ⟨rfl, rfl⟩
  go_wp2
  go_ret
  exact ⟨rfl, rfl⟩
/-- How many acts are left behind one. -/
def nxt (a : Int) : Int := if a = 0 then 0 else a - 1
/-- What an act leaves. -/
def ActM (w : World) (S : Nat → Prop) (k n : Nat) (Λ : RLay) (M : Nat → Mst) (off : Bool) (acts armed : Int) (u : Int) (e : Ending) (w' : World) : Prop := e = .returned (.int .i64 u) ∧ Stp S S w w' ∧ RBox w' S k n Λ M off acts armed
theorem act_0 {w : World} {S : Nat → Prop} {k n : Nat} {Λ : RLay} {M : Nat → Mst} {acts : Int} (h : RBox w S k n Λ M false acts 0) (i : Nat) (hi : i < n) (ha : 0 ≤ acts ∧ acts ≤ 1000000000000) :
    Calls Tryz.prog 70 #[.pointer (some ⟨k, 0, none⟩), .int .i64 (i : Int)] w (ActM w S k n Λ M false (acts + 1) 0 0) := by
  have ch := reach_on h i hi
  have c2 := h.c2
  have f2 := h.f 2
  obtain ⟨h1, s1⟩ := h.setK 2 (.int .i64 (acts + 1)) false (acts + 1) 0 rfl
  have c3 := h1.c3
  have ch1 := reach_on h1 i hi
  have wa : IntKind.i64.wrap (acts + 1) = acts + 1 := wrap_in (by omega) (by omega)
  have hfin := Lib.hid (And.intro s1 h1)
  clear h h1 s1 hi ha
  go_enter Tryz.func70, Tryz.ntmps70
  go_wp2_with (fail)
  refine ch.mono ?_
  rintro e w' ⟨rfl, rfl⟩
  go_wp2_with (fail)
  refine ch1.mono ?_
  rintro e w' ⟨rfl, rfl⟩
  go_wp2_with (fail)
  go_ret
  exact ⟨rfl, hfin.out⟩
theorem act_n {w : World} {S : Nat → Prop} {k n : Nat} {Λ : RLay} {M : Nat → Mst} {acts armed : Int} (h : RBox w S k n Λ M false acts armed) (i : Nat) (hi : i < n) (ha : 0 ≤ acts ∧ acts ≤ 1000000000000) (hb : 0 < armed ∧ armed ≤ 9000000000000000000) :
    Calls Tryz.prog 70 #[.pointer (some ⟨k, 0, none⟩), .int .i64 (i : Int)] w (ActM w S k n Λ M (armed == 1) (acts + 1) (armed - 1) (if armed = 1 then 90 else 0)) := by
  have ch := reach_on h i hi
  have c2 := h.c2
  have f2 := h.f 2
  obtain ⟨h1, s1⟩ := h.setK 2 (.int .i64 (acts + 1)) false (acts + 1) armed rfl
  have c3 := h1.c3
  have f3 := h1.f 3
  obtain ⟨h2, s2⟩ := h1.setK 3 (.int .i64 (armed - 1)) false (acts + 1) (armed - 1) rfl
  have c32 := h2.c3
  have c1 := h2.c1
  have f1 := h2.f 1
  obtain ⟨h3, s3⟩ := h2.setK 1 (.bool (armed == 1)) (armed == 1) (acts + 1) (armed - 1) rfl
  have wa : IntKind.i64.wrap (acts + 1) = acts + 1 := wrap_in (by omega) (by omega)
  have wb : IntKind.i64.wrap (armed - 1) = armed - 1 := wrap_in (by omega) (by omega)
  have hz : (armed - 1 == 0) = (armed == 1) := by
    by_cases e : armed = 1
    · subst e; rfl
    · rw [beq_eq_false_iff_ne.2 e, beq_eq_false_iff_ne.2 (by omega)]
  have hfin := Lib.hid (And.intro (s1.trans (s2.trans s3)) h3)
  have hb0 := hb.1
  by_cases e1 : armed = 1
  · have q1 : (armed == 1) = true := by rw [e1]; rfl
    rw [q1] at hz hfin h3
    rw [if_pos e1, q1]
    have ch1 := reach_off h3 i hi
    clear h h1 h2 h3 s1 s2 s3 hi ha hb e1 q1
    go_enter Tryz.func70, Tryz.ntmps70
    go_wp2_with (fail)
    refine ch.mono ?_
    rintro e w' ⟨rfl, rfl⟩
    go_wp2_with (fail)
    refine ch1.mono ?_
    rintro e w' ⟨rfl, rfl⟩
    go_wp2_with (fail)
    go_ret
    exact ⟨rfl, hfin.out⟩
  · have q1 : (armed == 1) = false := beq_eq_false_iff_ne.2 e1
    rw [q1] at hz hfin h3
    rw [if_neg e1, q1]
    have ch1 := reach_on h3 i hi
    clear h h1 h2 h3 s1 s2 s3 hi ha hb e1 q1
    go_enter Tryz.func70, Tryz.ntmps70
    go_wp2_with (fail)
    refine ch.mono ?_
    rintro e w' ⟨rfl, rfl⟩
    go_wp2_with (fail)
    refine ch1.mono ?_
    rintro e w' ⟨rfl, rfl⟩
    go_wp2_with (fail)
    go_ret
    exact ⟨rfl, hfin.out⟩
end Go.Proofs.YtfadglcpapiklaaGreatDoor
end
section
namespace Go.Proofs.YtfadglcpapiklaaGreatDoor
open Go.RowKit
set_option linter.unusedVariables false
set_option linter.unusedSimpArgs false
set_option maxRecDepth 100000

theorem act_ok {w : World} {S : Nat → Prop} {k n : Nat} {Λ : RLay} {M : Nat → Mst} {acts armed : Int} (h : RBox w S k n Λ M false acts armed) (i : Nat) (hi : i < n) (ha : 0 ≤ acts ∧ acts ≤ 1000000000000) (hb : 0 ≤ armed ∧ armed ≤ 9000000000000000000) (h1 : armed ≠ 1) :
    Calls Tryz.prog 70 #[.pointer (some ⟨k, 0, none⟩), .int .i64 (i : Int)] w (ActM w S k n Λ M false (acts + 1) (nxt armed) 0) := by
  by_cases e : armed = 0
  · subst e; exact act_0 h i hi ha
  · have := act_n h i hi ha ⟨by omega, hb.2⟩
    rw [if_neg h1, beq_eq_false_iff_ne.2 h1] at this
    unfold nxt
    rw [if_neg e]; exact this
theorem act_last {w : World} {S : Nat → Prop} {k n : Nat} {Λ : RLay} {M : Nat → Mst} {acts : Int} (h : RBox w S k n Λ M false acts 1) (i : Nat) (hi : i < n) (ha : 0 ≤ acts ∧ acts ≤ 1000000000000) :
    Calls Tryz.prog 70 #[.pointer (some ⟨k, 0, none⟩), .int .i64 (i : Int)] w (ActM w S k n Λ M true (acts + 1) 0 90) := act_n h i hi ha ⟨by omega, by omega⟩
/-- What a call makes of a rack. -/
def RSs (w : World) (S : Nat → Prop) (w1 : World) (k n : Nat) (M : Nat → Mst) (off : Bool) (acts armed : Int) (u : Value) (e : Ending) (w' : World) : Prop := ∃ S', e = .returned u ∧ Stp S S' w1 w' ∧ RS w S' w' k n M off acts armed
theorem RS.made {w w1 w2 : World} {S S' : Nat → Prop} {k n k' n' : Nat} {Λ : RLay} {M M' : Nat → Mst} {off off' : Bool} {acts armed acts' armed' : Int} (h : RS w S w1 k n M off acts armed) (hs : Stp S S' w1 w2) (hp : RBox w2 S' k' n' Λ M' off' acts' armed') : RS w S' w2 k' n' M' off' acts' armed' :=
  ⟨h.b.trans (hs.below h.f h.b.size), fun x hx => by
    rcases hs.grow x hx with z | z
    · exact h.f x z
    · exact Nat.le_trans h.b.size z, Λ, hp⟩
theorem upd_self (M : Nat → Mst) (i : Nat) : upd M i (M i) = M := by
  funext j; unfold upd; by_cases e : j = i
  · rw [if_pos e, e]
  · rw [if_neg e]
section
variable {w w1 : World} {S : Nat → Prop} {k n : Nat} {M : Nat → Mst} {off : Bool} {acts armed : Int}
theorem rs_image (h : RS w S w1 k n M off acts armed) (i : Nat) (hi : i < n) {L : List ByteArray} {V : Int → List ByteArray} (hM : M i = ⟨false, L, V⟩) :
    Calls Tryz.prog 23 #[.pointer (some ⟨k, 0, none⟩), .int .i64 (i : Int)] w1 (GivesI w1 L) := by
  obtain ⟨Λ, hB⟩ := h.h
  have ch := hask_any hB i
  rw [hasK_nat hi] at ch
  have hk : (i : Int) < (n : Int) := by omega
  have c0 := hB.c0
  have cs := hB.slot hi
  have hp := hB.p i hi
  rw [hM] at hp
  have cm := image_any hp
  clear h hB hp
  go_enter Tryz.func23, Tryz.ntmps23
  go_wp2_with (fail)
  refine ch.mono ?_
  rintro e w' ⟨rfl, rfl⟩
  go_wp2_with (fail)
  refine cm.mono ?_
  rintro e w3 ⟨x, rfl, b3, o3⟩
  go_wp2_with (fail)
  go_ret
  exact ⟨x, rfl, b3, o3⟩
theorem rs_imaged (h : RS w S w1 k n M off acts armed) (i : Nat) (hi : i < n) {L : List ByteArray} {V : Int → List ByteArray} (hM : M i = ⟨true, L, V⟩) :
    Calls Tryz.prog 23 #[.pointer (some ⟨k, 0, none⟩), .int .i64 (i : Int)] w1 fun e w' => e = .returned (.slice none 0 0) ∧ w1 = w' := by
  obtain ⟨Λ, hB⟩ := h.h
  have ch := hask_any hB i
  rw [hasK_nat hi] at ch
  have hk : (i : Int) < (n : Int) := by omega
  have c0 := hB.c0
  have cs := hB.slot hi
  have hp := hB.p i hi
  rw [hM] at hp
  have cm := image_dead hp
  clear h hB hp
  go_enter Tryz.func23, Tryz.ntmps23
  go_wp2_with (fail)
  refine ch.mono ?_
  rintro e w' ⟨rfl, rfl⟩
  go_wp2_with (fail)
  refine cm.mono ?_
  rintro e w' ⟨rfl, rfl⟩
  go_wp2_with (fail)
  go_ret
  exact ⟨rfl, rfl⟩
theorem rs_pend (h : RS w S w1 k n M off acts armed) (i : Nat) (hi : i < n) :
    Calls Tryz.prog 25 #[.pointer (some ⟨k, 0, none⟩), .int .i64 (i : Int)] w1 fun e w' => e = .returned (.int .i64 ((pend (M i).L.length (M i).V).length : Int)) ∧ Below w1.heap.size w1 w' := by
  obtain ⟨Λ, hB⟩ := h.h
  have ch := hask_any hB i
  rw [hasK_nat hi] at ch
  have hk : (i : Int) < (n : Int) := by omega
  have c0 := hB.c0
  have cs := hB.slot hi
  have cm := pend_any (hB.p i hi)
  generalize pend (M i).L.length (M i).V = P at *
  clear h hB
  go_enter Tryz.func25, Tryz.ntmps25
  go_wp2_with (fail)
  refine ch.mono ?_
  rintro e w' ⟨rfl, rfl⟩
  go_wp2_with (fail)
  refine cm.mono ?_
  rintro e w3 ⟨v, rfl, b3, o3⟩
  have hl := fun W => o3.reads.len_run (P := Tryz.prog) Tryz.underlying24 3 W
  rw [List.length_map] at hl
  clear o3 cm
  go_wp2_with (fail)
  go_ret
  exact ⟨rfl, b3⟩
theorem rs_fail (h : RS w S w1 k n M off acts armed) (i : Nat) (hi : i < n) :
    Calls Tryz.prog 15 #[.pointer (some ⟨k, 0, none⟩), .int .i64 (i : Int)] w1 (RSs w S w1 k n (upd M i ⟨true, List.replicate (M i).L.length zero128, noV⟩) off acts armed (.bool true)) := by
  obtain ⟨Λ, hB⟩ := h.h
  have ch := hask_any hB i
  rw [hasK_nat hi] at ch
  have hk : (i : Int) < (n : Int) := by omega
  have c0 := hB.c0
  have cs := hB.slot hi
  have cm := fail_any (hB.p i hi)
  go_enter Tryz.func15, Tryz.ntmps15
  go_wp2_with (fail)
  refine ch.mono ?_
  rintro e w' ⟨rfl, rfl⟩
  go_wp2_with (fail)
  refine cm.mono ?_
  rintro e w3 ⟨rfl, hs3, hp3⟩
  obtain ⟨s4, hB4⟩ := hB.turnS (st := ⟨true, List.replicate (M i).L.length zero128, noV⟩) hi hs3 hp3
  have ch4 := hask_any hB4 i
  rw [hasK_nat hi] at ch4
  have hfin := Lib.hid (And.intro s4 (h.made s4 hB4))
  clear h hB cm hs3 hp3 s4 hB4 ch
  go_wp2_with (fail)
  refine ch4.mono ?_
  rintro e w' ⟨rfl, rfl⟩
  go_wp2_with (fail)
  go_ret
  exact ⟨S, rfl, hfin.out⟩
theorem rs_blank (h : RS w S w1 k n M off acts armed) (i : Nat) (hi : i < n) :
    Calls Tryz.prog 16 #[.pointer (some ⟨k, 0, none⟩), .int .i64 (i : Int)] w1 (RSs w S w1 k n (upd M i ⟨false, List.replicate (M i).L.length zero128, noV⟩) off acts armed (.bool true)) := by
  obtain ⟨Λ, hB⟩ := h.h
  have ch := hask_any hB i
  rw [hasK_nat hi] at ch
  have hk : (i : Int) < (n : Int) := by omega
  have c0 := hB.c0
  have cs := hB.slot hi
  have cm := blank_any (hB.p i hi)
  go_enter Tryz.func16, Tryz.ntmps16
  go_wp2_with (fail)
  refine ch.mono ?_
  rintro e w' ⟨rfl, rfl⟩
  go_wp2_with (fail)
  refine cm.mono ?_
  rintro e w3 ⟨rfl, hs3, hp3⟩
  obtain ⟨s4, hB4⟩ := hB.turnS (st := ⟨false, List.replicate (M i).L.length zero128, noV⟩) hi hs3 hp3
  have ch4 := hask_any hB4 i
  rw [hasK_nat hi] at ch4
  have hfin := Lib.hid (And.intro s4 (h.made s4 hB4))
  clear h hB cm hs3 hp3 s4 hB4 ch
  go_wp2_with (fail)
  refine ch4.mono ?_
  rintro e w' ⟨rfl, rfl⟩
  go_wp2_with (fail)
  go_ret
  exact ⟨S, rfl, hfin.out⟩
theorem rs_rot (h : RS w S w1 k n M off acts armed) (i : Nat) (hi : i < n) (a j b : Nat) (hr : rotB (M i).fd (M i).L (M i).V a j b = true) (hnl : a < (M i).L.length) (hj : j < 128) (hb : b < 256) :
    Calls Tryz.prog 17 #[.pointer (some ⟨k, 0, none⟩), .int .i64 (i : Int), .int .i64 (a : Int), .int .i64 (j : Int), .int .i64 (b : Int)] w1 (RSs w S w1 k n (upd M i ⟨false, (M i).L.set a (rotS (M i).L[a] j b), (M i).V⟩) off acts armed (.bool true)) := by
  obtain ⟨Λ, hB⟩ := h.h
  have ch := hask_any hB i
  rw [hasK_nat hi] at ch
  have hk : (i : Int) < (n : Int) := by omega
  have c0 := hB.c0
  have cs := hB.slot hi
  have cm := rot_yes (hB.p i hi) a j b hr hnl hj hb
  go_enter Tryz.func17, Tryz.ntmps17
  go_wp2_with (fail)
  refine ch.mono ?_
  rintro e w' ⟨rfl, rfl⟩
  go_wp2_with (fail)
  refine cm.mono ?_
  rintro e w3 ⟨rfl, hs3, hp3⟩
  obtain ⟨s4, hB4⟩ := hB.turnS (st := ⟨false, (M i).L.set a (rotS (M i).L[a] j b), (M i).V⟩) hi hs3 hp3
  have hfin := Lib.hid (And.intro s4 (h.made s4 hB4))
  clear h hB cm hs3 hp3 s4 hB4 ch hr
  go_wp2_with (fail)
  go_ret
  exact ⟨S, rfl, hfin.out⟩
theorem rs_rotn (h : RS w S w1 k n M off acts armed) (i : Nat) (hi : i < n) (a j b : Int) (haI : In64 a) (hr : rotB (M i).fd (M i).L (M i).V a j b = false) :
    Calls Tryz.prog 17 #[.pointer (some ⟨k, 0, none⟩), .int .i64 (i : Int), .int .i64 a, .int .i64 j, .int .i64 b] w1 fun e w' => e = .returned (.bool false) ∧ w1 = w' := by
  obtain ⟨Λ, hB⟩ := h.h
  have ch := hask_any hB i
  rw [hasK_nat hi] at ch
  have hk : (i : Int) < (n : Int) := by omega
  have c0 := hB.c0
  have cs := hB.slot hi
  have cm := rot_no (hB.p i hi) a j b haI hr
  clear h hB hr
  go_enter Tryz.func17, Tryz.ntmps17
  go_wp2_with (fail)
  refine ch.mono ?_
  rintro e w' ⟨rfl, rfl⟩
  go_wp2_with (fail)
  refine cm.mono ?_
  rintro e w' ⟨rfl, rfl⟩
  go_wp2_with (fail)
  go_ret
  exact ⟨rfl, rfl⟩
theorem rs_arm (h : RS w S w1 k n M off acts armed) (a : Int) (ha : 0 ≤ a ∧ a ≤ 1099511627776) :
    Calls Tryz.prog 30 #[.pointer (some ⟨k, 0, none⟩), .int .i64 a] w1 (RSs w S w1 k n M off acts a (.int .i64 0)) := by
  obtain ⟨Λ, hB⟩ := h.h
  have c3 := hB.c3
  have f3 := hB.f 3
  obtain ⟨h1, s1⟩ := hB.setK 3 (.int .i64 a) off acts a rfl
  have t1 : decide (a < 0) = false := decide_eq_false (by omega)
  have t2 : decide ((1099511627776 : Int) < a) = false := decide_eq_false (by omega)
  have hfin := Lib.hid (And.intro s1 (h.made s1 h1))
  clear h hB h1 s1
  go_enter Tryz.func30, Tryz.ntmps30
  go_wp2_with (fail)
  go_ret
  exact ⟨S, rfl, hfin.out⟩
end
end Go.Proofs.YtfadglcpapiklaaGreatDoor
end
section
namespace Go.Proofs.YtfadglcpapiklaaGreatDoor
open Go.RowKit
set_option linter.unusedVariables false
set_option linter.unusedSimpArgs false
set_option maxRecDepth 100000

theorem slot_is : ∃ i, Tryz.prog.info? 89 = some i ∧ i.zero = some (.agg #[.pointer none]) ∧ i.size = 1 ∧ i.bytes = 8 := (cont_gen (P := Tryz.prog) (t := 89) (c := .agg #[.pointer none]) (n := 1) (k := 8) (by kernel_rfl)).2
/-- A rack that is being made. -/
structure NB (w : World) (k j : Nat) (sv : Value) (Λ : RLay) (s : Nat) : Prop where
  b : w.heap[k]? = some (.cells #[sv, .bool false, .int .i64 0, .int .i64 0] 92 (0, 0))
  l : Own w (k + 1) 89 sv (rowV j fun i => .pointer (some ⟨Λ.m i, 0, none⟩))
  p : ∀ i, i < j → PBox w (Λ.T i) (Λ.m i) (Λ.g i) (Λ.bp i) (Λ.cp i) false (List.replicate s zero128) noV (Λ.F i)
  dj : ∀ a c x, a < j → c < j → a ≠ c → Λ.T a x → ¬ Λ.T c x
  tk : ∀ i x, i < j → Λ.T i x → k < x ∧ sv.ownBlock ≠ some x
  kl : k < w.heap.size
section
variable {w w2 : World} {k j : Nat} {sv : Value} {Λ : RLay} {s : Nat}
theorem NB.c0 (h : NB w k j sv Λ s) : w.cell? ⟨k, 0, none⟩ = some sv := by simp [World.cell?, h.b]
theorem NB.after (h : NB w k j sv Λ s) (hb : Below w.heap.size w w2) : NB w2 k j sv Λ s :=
  ⟨(hb.block k h.kl).trans h.b, h.l.after hb, fun i hi => (h.p i hi).below hb, h.dj, h.tk, Nat.lt_of_lt_of_le h.kl hb.size⟩
theorem NB.push (h : NB w k j sv Λ s) (hb : Below w.heap.size w w2) (hj : j ≤ 7) {S' : Nat → Prop} {m g bp cp : Nat} {F : Int → Value} (hP : PBox w2 S' m g bp cp false (List.replicate s zero128) noV F) (hS : ∀ x, S' x → w.heap.size ≤ x) :
    ∃ v' w3 Λ', (∃ a n c, v' = .slice a n c) ∧ (Builtin.append_ #[90, 90] 90 #[sv, .slice (some ⟨w2.heap.size, 0, none⟩) 1 1]).run Tryz.prog (w2.alloc (.cells #[.pointer (some ⟨m, 0, none⟩)] 89)) = .ok v' w3 ∧
      w3.cell? ⟨k, 0, none⟩ = some sv ∧ w3.frozen? ⟨k, 0, none⟩ = false ∧ NB (w3.setCell ⟨k, 0, none⟩ v') k (j + 1) v' Λ' s ∧ Below k w2 (w3.setCell ⟨k, 0, none⟩ v') := by
  obtain ⟨si, s1, s2, s3, s4⟩ := slot_is
  have h2 := h.after hb
  obtain ⟨v', w3, hap, ho, hb3, hk, hv⟩ := Own.pushA (P := Tryz.prog) (T := 90) Tryz.underlying90 s1 s2 s3 s4 rfl h2.l (.pointer (some ⟨m, 0, none⟩)) rfl h2.kl (by rw [rowV_len]; omega) (by rw [rowV_len]; omega)
  obtain ⟨gv, cv, ev, _, _⟩ := ho.form (by simp)
  have kb : w3.heap[k]? = some (.cells #[sv, .bool false, .int .i64 0, .int .i64 0] 92 (0, 0)) := (hb3.block k (by omega)).trans h2.b
  have k5 : ∀ x, x ≠ k → (w3.setCell ⟨k, 0, none⟩ v').heap[x]? = w3.heap[x]? := fun x hx => Below.heap_setCell _ _ _ _ hx
  have vnew : ∀ x, v'.ownBlock = some x → sv.ownBlock = some x ∨ x = w2.heap.size + 1 := fun x e => by
    rcases hv with z | z
    · exact .inl (by rw [← z]; exact e)
    · rw [z] at e; injection e with e; exact .inr e.symm
  have svn : ∀ x, S' x → sv.ownBlock ≠ some x := fun x hx e => by have := (h.l.o.lt x e).2; have := hS x hx; omega
  have hkw : k < w.heap.size := h.kl
  refine ⟨v', w3, { q := 0, cap := 0, T := upd Λ.T j S', m := upd Λ.m j m, g := upd Λ.g j g, bp := upd Λ.bp j bp, cp := upd Λ.cp j cp, F := upd Λ.F j F }, ⟨_, _, _, ev⟩, hap, by simp [World.cell?, kb], by simp [World.frozen?, kb], ⟨?_, ?_, fun i hi => ?_, fun a c x ha hc hne hx => ?_, fun i x hi hx => ?_, ?_⟩, (hb3.mono (Nat.le_succ k)).setCell (p := ⟨k, 0, none⟩) (Nat.le_refl k) v'⟩
  · simp [World.setCell, Array.getElem?_modify, kb]
  · have e : rowV j (fun i => Value.pointer (some ⟨Λ.m i, 0, none⟩)) ++ [.pointer (some ⟨m, 0, none⟩)] = rowV (j + 1) fun i => .pointer (some ⟨upd Λ.m j m i, 0, none⟩) := by
      unfold rowV
      rw [List.range_succ, List.map_append]
      congr 1
      · apply List.map_congr_left
        intro i hi
        have := List.mem_range.1 hi
        rw [upd_other _ _ _ _ (by omega)]
      · simp [upd]
    rw [e] at ho
    exact ho.sameAt fun x hx => k5 x (by have := (ho.o.lt x hx).1; omega)
  · by_cases e : i = j
    · subst e
      simp only [upd_same]
      exact hP.heap (fun x hx => (k5 x (by have := hS x hx; omega)).trans (hk x (hP.lt x hx) (svn x hx))) (by have := hb3.size; simp; omega)
    · simp only [upd_other _ _ _ _ e]
      have hp2 := h2.p i (by omega)
      exact hp2.heap (fun x hx => (k5 x (by have := (h.tk i x (by omega) hx).1; omega)).trans (hk x (hp2.lt x hx) (h.tk i x (by omega) hx).2)) (by have := hb3.size; simp; omega)
  · have told : ∀ i x, i < j → Λ.T i x → x < w.heap.size := fun i x hi hx => (h.p i hi).lt x hx
    by_cases e : a = j
    · subst e
      simp only [upd_same] at hx
      simp only [upd_other _ _ _ _ (Ne.symm hne)]
      exact fun z => by have := told c x (by omega) z; have := hS x hx; omega
    · simp only [upd_other _ _ _ _ e] at hx
      by_cases e2 : c = j
      · subst e2
        simp only [upd_same]
        exact fun z => by have := told a x (by omega) hx; have := hS x z; omega
      · simp only [upd_other _ _ _ _ e2]
        exact h.dj a c x (by omega) (by omega) hne hx
  · by_cases e : i = j
    · subst e
      simp only [upd_same] at hx
      refine ⟨by have := hS x hx; omega, fun z => ?_⟩
      rcases vnew x z with q | q
      · exact svn x hx q
      · have := hP.lt x hx; omega
    · simp only [upd_other _ _ _ _ e] at hx
      refine ⟨(h.tk i x (by omega) hx).1, fun z => ?_⟩
      rcases vnew x z with q | q
      · exact (h.tk i x (by omega) hx).2 q
      · have := (h2.p i (by omega)).lt x hx; omega
  · have := hb3.size; have := h2.kl; simp; omega
theorem NB.done (h : NB w k j sv Λ s) (h1 : 1 ≤ j) (h7 : j ≤ 7) : ∃ S Λ', (∀ x, S x → k ≤ x) ∧ RBox w S k j Λ' (fun _ => ⟨false, List.replicate s zero128, noV⟩) false 0 0 := by
  obtain ⟨q, cap, rfl, hq1, hq2⟩ := h.l.form (by rw [rowV_len]; omega)
  have hl := h.l
  rw [rowV_len] at hl
  have hb := h.b
  rw [rowV_len] at hb
  refine ⟨fun x => x = k ∨ x = q ∨ ∃ i, i < j ∧ Λ.T i x, { Λ with q := q, cap := cap }, ?_, ⟨hb, hl.mono (Nat.zero_le _), h.p, h.dj, fun i x hi hx => ⟨.inr (.inr ⟨i, hi, hx⟩), by have := (h.tk i x hi hx).1; omega, fun e => (h.tk i x hi hx).2 (by rw [e]; rfl)⟩, .inl rfl, .inr (.inl rfl), by show k ≠ q; omega, ?_, h1, h7⟩⟩
  · rintro x (rfl | rfl | ⟨i, hi, hx⟩)
    · exact Nat.le_refl _
    · omega
    · have := (h.tk i x hi hx).1; omega
  · rintro x (rfl | rfl | ⟨i, hi, hx⟩)
    · exact h.kl
    · exact hq2
    · exact (h.p i hi).lt x hx
end
set_option maxHeartbeats 2000000 in
theorem rs_new (n s : Nat) (w : World) (h1 : 1 ≤ n) (h7 : n ≤ 7) (hs1 : 1 ≤ s) (hs2 : s ≤ 256) :
    Calls Tryz.prog 33 #[.int .i64 (n : Int), .int .i64 (s : Int)] w fun e w' => ∃ S k, e = .returned (.tuple #[.pointer (some ⟨k, 0, none⟩), .int .i64 0]) ∧ RS w S w' k n (fun _ => ⟨false, List.replicate s zero128, noV⟩) false 0 0 := by
  have t1 : decide ((n : Int) < 1) = false := decide_eq_false (by omega)
  have t2 : decide ((7 : Int) < (n : Int)) = false := decide_eq_false (by omega)
  have cN := fun W => newm_any s W hs1 hs2
  obtain ⟨k, hk⟩ : ∃ k, w.heap.size = k := ⟨_, rfl⟩
  have hb0 : Below w.heap.size w (w.alloc (.cells #[.slice none 0 0, .bool false, .int .i64 0, .int .i64 0] 92)) := (Below.refl _ _).alloc (Nat.le_refl _) _
  have h0 : NB (w.alloc (.cells #[.slice none 0 0, .bool false, .int .i64 0, .int .i64 0] 92)) k 0 (.slice none 0 0) ⟨0, 0, fun _ _ => False, fun _ => 0, fun _ => 0, fun _ => 0, fun _ => 0, fun _ => noF⟩ s :=
    ⟨by rw [← hk]; exact heap_alloc_new _ _, Own.nil _ _ _, fun i hi => absurd hi (Nat.not_lt_zero _), fun a c x ha => absurd ha (Nat.not_lt_zero _), fun i x hi => absurd hi (Nat.not_lt_zero _), by simp; omega⟩
  have hkH := Lib.hid hk
  go_enter Tryz.func33, Tryz.ntmps33
  go_wp2_with (fail)
  go_loopw [18] (fun t wr => ∃ (j : Nat) (sv : Value) (Λ : RLay), j ≤ n ∧ t = .int .i64 (j : Int) ∧ Below w.heap.size w wr ∧ NB wr k j sv Λ s) (fun t _ => n - (RowKit.intOf t).toNat)
  case atStart => exact ⟨0, _, _, by omega, rfl, hb0, h0⟩
  case round =>
    clear hb0 h0
    obtain ⟨j, sv, Λ, hj, rfl, hb, hB⟩ := hrel
    by_cases hlt : j < n
    · have j1 : (j : Int) < (n : Int) := by omega
      have j2 : (j : Int) + 1 ≤ 8 := by omega
      go_wp2_with (fail)
      refine (cN _).mono ?_
      rintro e w2 ⟨S', m, g, bp, cp, rfl, hb2, hS2, hP⟩
      obtain ⟨_, w3, Λ', ⟨pa, pn, pc, rfl⟩, hap, c3, f3, hB3, hb3⟩ := hB.push hb2 (by omega) hP hS2
      have c0 := (hB.after hb2).c0
      have hrel2 := Lib.hid (And.intro (hb.trans ((hb2.mono hb.size).trans (hb3.mono (by rw [hkH.out]; exact Nat.le_refl _)))) hB3)
      clear hB hb hb2 hP hS2 hB3 hb3
      go_wp2_with (at_builtin; refine wpList_append_run hap _ _ rfl rfl rfl rfl rfl ?_)
      go_roundw
      case rel => exact ⟨j + 1, _, Λ', by omega, by go_num, hrel2.out⟩
      case measure => simp [RowKit.intOf]; omega
    · obtain rfl : j = n := by omega
      obtain ⟨S, Λ', hS, hR⟩ := hB.done h1 h7
      have hfin : Hid (RS w S wr k j (fun _ => ⟨false, List.replicate s zero128, noV⟩) false 0 0) := Lib.hid ⟨hb, fun x hx => by rw [hkH.out]; exact hS x hx, Λ', hR⟩
      clear hB hb hR hS hlt
      go_wp2_with (fail)
      go_ret2
      exact ⟨S, k, rfl, hfin.out⟩
end Go.Proofs.YtfadglcpapiklaaGreatDoor
end
section
namespace Go.Proofs.YtfadglcpapiklaaGreatDoor
open Go.RowKit
set_option linter.unusedVariables false
set_option linter.unusedSimpArgs false
set_option maxRecDepth 100000

/-- Choices as they lie. -/
structure ChR (w : World) (vv : Value) (l : List (Value × List Int)) : Prop where
  o : Reads w vv (l.map Prod.fst)
  c : ∀ x ∈ l, Reads w x.1 (x.2.map (.int .i64)) ∧ (∀ c ∈ x.2, In64 c) ∧ x.2.length ≤ 140737488355328
/-- None of its blocks is in S. -/
def ChA (vv : Value) (l : List (Value × List Int)) (S : Nat → Prop) : Prop := (l ≠ [] → ∀ b, vv.ownBlock = some b → ¬ S b) ∧ ∀ x ∈ l, x.2 ≠ [] → ∀ b, x.1.ownBlock = some b → ¬ S b
theorem Reads.at' {w w' : World} {v : Value} {xs : List Value} (h : Reads w v xs) (hk : xs ≠ [] → ∀ b, v.ownBlock = some b → b < w.heap.size → w'.heap[b]? = w.heap[b]?) (hs : w.heap.size ≤ w'.heap.size) : Reads w' v xs := by
  by_cases e : xs = []
  · rcases h with x | ⟨b, off, c, x, _, _⟩
    · exact .inl x
    · rw [e] at x; exact .inl ⟨⟨_, _, x⟩, e⟩
  · exact h.at (fun b hb => hk e b hb (h.blk e b hb)) hs
theorem ChR.step {w w' : World} {vv : Value} {l : List (Value × List Int)} {S S' : Nat → Prop} (h : ChR w vv l) (hs : Stp S S' w w') (ha : ChA vv l S) : ChR w' vv l :=
  ⟨h.o.at' (fun e b hb hl => hs.oth b hl (ha.1 (fun e2 => e (by rw [e2]; rfl)) b hb)) hs.b0.size,
   fun x hx => ⟨(h.c x hx).1.at' (fun e b hb hl => hs.oth b hl (ha.2 x hx (fun e2 => e (by rw [e2]; rfl)) b hb)) hs.b0.size, (h.c x hx).2⟩⟩
theorem ChR.below {w w' : World} {vv : Value} {l : List (Value × List Int)} (h : ChR w vv l) (hb : Below w.heap.size w w') : ChR w' vv l :=
  ⟨h.o.below hb, fun x hx => ⟨(h.c x hx).1.below hb, (h.c x hx).2⟩⟩
theorem ChR.old {w : World} {vv : Value} {l : List (Value × List Int)} {S : Nat → Prop} (h : ChR w vv l) (hS : ∀ x, S x → w.heap.size ≤ x) : ChA vv l S :=
  ⟨fun e b hb hs => by have := h.o.blk (by simpa using e) b hb; have := hS b hs; omega, fun x hx e b hb hs => by have := (h.c x hx).1.blk (by simpa using e) b hb; have := hS b hs; omega⟩
def chs (l : List (Value × List Int)) (i : Nat) : List Int := (l.getD i (.slice none 0 0, [])).2
/-- What a crash makes of a member. -/
def crashM (st : Mst) (ch : List Int) : Mst := ⟨st.fd, crash st.L st.V ch, noV⟩
theorem RBox.congr {w : World} {S : Nat → Prop} {k n : Nat} {Λ : RLay} {M M' : Nat → Mst} {off : Bool} {acts armed : Int} (h : RBox w S k n Λ M off acts armed) (e : ∀ i, i < n → M' i = M i) : RBox w S k n Λ M' off acts armed :=
  ⟨h.b, h.l, fun i hi => by rw [e i hi]; exact h.p i hi, h.dj, h.tS, h.sk, h.sq, h.kq, h.lt, h.n1, h.n7⟩
theorem RS.congr {w w1 : World} {S : Nat → Prop} {k n : Nat} {M M' : Nat → Mst} {off : Bool} {acts armed : Int} (h : RS w S w1 k n M off acts armed) (e : ∀ i, i < n → M' i = M i) : RS w S w1 k n M' off acts armed := by
  obtain ⟨Λ, hB⟩ := h.h
  exact ⟨h.b, h.f, Λ, hB.congr e⟩
set_option maxHeartbeats 4000000 in
theorem rs_restart {w w1 : World} {S : Nat → Prop} {k n : Nat} {M : Nat → Mst} {off : Bool} {acts armed : Int} (h : RS w S w1 k n M off acts armed) (vv : Value) (l : List (Value × List Int)) (hc : ChR w1 vv l) (ha : ChA vv l S) (hln : l.length ≤ 140737488355328) (hv : ∀ i, i < n → ∀ z, ((M i).V z).length ≤ 1000000000000) :
    Calls Tryz.prog 31 #[.pointer (some ⟨k, 0, none⟩), vv] w1 fun e w' => e = .returned (.tuple #[]) ∧ Stp S S w1 w' ∧ RS w S w' k n (fun i => crashM (M i) (chs l i)) false acts 0 := by
  obtain ⟨Λ, hB⟩ := h.h
  have c0 := hB.c0
  have hlenv := fun W => hc.o.len_run (P := Tryz.prog) Tryz.underlying67 3 W
  rw [List.length_map] at hlenv
  have hlenq : ∀ W, (Builtin.len_ #[90] 3 #[.slice (some ⟨Λ.q, 0, none⟩) n Λ.cap]).run Tryz.prog W = .ok (.int .i64 (n : Int)) W := fun W => by
    have := hB.l.reads.len_run (P := Tryz.prog) Tryz.underlying90 3 W
    rw [rowV_len] at this; exact this
  have hn7 := hB.n7
  obtain ⟨pv, pc, rfl, pcell⟩ := hc.o.items
  have hMade := Lib.hid h
  go_enter Tryz.func31, Tryz.ntmps31
  go_wp2_with (fail)
  go_loopw [12] (fun t wr => ∃ (j : Nat) (Λ' : RLay), j ≤ n ∧ t = .int .i64 (j : Int) ∧ Λ'.q = Λ.q ∧ Λ'.cap = Λ.cap ∧ Stp S S w1 wr ∧ RBox wr S k n Λ' (fun i => if i < j then crashM (M i) (chs l i) else M i) off acts armed) (fun t _ => n - (RowKit.intOf t).toNat)
  case atStart => exact ⟨0, Λ, by omega, rfl, rfl, rfl, Stp.refl _ _, hB.congr (fun i _ => by rw [if_neg (by omega)])⟩
  case round =>
    clear hB h c0
    obtain ⟨j, Λ', hj, rfl, hq, hcap, hS, hB⟩ := hrel
    by_cases hlt : j < n
    · have j1 : (j : Int) < (n : Int) := by omega
      have j2 : (j : Int) + 1 ≤ 8 := by omega
      have cs := hB.slot hlt
      rw [hq] at cs
      have hb2 : Below wr.heap.size wr (wr.alloc (.cells #[.pointer (some ⟨Λ'.m j, 0, none⟩)] 89)) := (Below.refl _ _).alloc (Nat.le_refl _) _
      have hB2 := hB.below hb2
      have hS2 := hS.trans (Stp.quiet hb2)
      have hc2 := hc.step hS2 ha
      have hp := hB2.p j hlt
      simp only [if_neg (Nat.lt_irrefl j)] at hp
      have hTS : ∀ x, Λ'.T j x → S x := fun x hx => (hB2.tS j x hlt hx).1
      have hM2 : ∀ i, (fun i => if i < j + 1 then crashM (M i) (chs l i) else M i) i = upd (fun i => if i < j then crashM (M i) (chs l i) else M i) j (crashM (M j) (chs l j)) i := fun i => by
        unfold upd
        show (if i < j + 1 then _ else _) = _
        by_cases e : i = j
        · subst e; rw [if_pos rfl, if_pos (by omega)]
        · rw [if_neg e]
          show _ = (if i < j then _ else _)
          by_cases e2 : i < j
          · rw [if_pos e2, if_pos (by omega)]
          · rw [if_neg e2, if_neg (by omega)]
      by_cases hjl : j < l.length
      · obtain ⟨cb, co, rfl, clt, cc⟩ := pcell j hjl
        have hx := List.getElem_mem hjl
        have e1 : chs l j = l[j].2 := by unfold chs; rw [List.getD_eq_getElem?_getD, List.getElem?_eq_getElem hjl]; rfl
        have cc2 : (wr.alloc (.cells #[.pointer (some ⟨Λ'.m j, 0, none⟩)] 89)).cell? ⟨cb, co + j, none⟩ = some l[j].1 := by
          rw [← cc]
          exact cell_of_heap (hS2.oth cb clt (ha.1 (fun e => by rw [e] at hjl; exact absurd hjl (Nat.not_lt_zero _)) cb rfl)) _
        have cm := crash_any hp l[j].1 l[j].2 (hc2.c _ hx).1 (fun hne b hb hT => ha.2 _ hx hne b hb (hTS b hT)) (hc2.c _ hx).2.1 (hc2.c _ hx).2.2 (hv j hlt)
        rw [← e1] at cm
        have jl : (j : Int) < (l.length : Int) := by omega
        generalize l[j].1 = u at *
        clear cc hc2 hp hB hx e1 hjl hb2
        go_wp2_with (fail)
        refine cm.mono ?_
        rintro e w4 ⟨rfl, hs4, hp4⟩
        obtain ⟨s5, hB5⟩ := hB2.turnS (st := crashM (M j) (chs l j)) hlt hs4 hp4
        have hrel2 := Lib.hid (And.intro (hS2.trans s5) (hB5.congr (fun i _ => hM2 i)))
        clear hB2 hS2 hs4 hp4 s5 hB5 cm hM2 hTS
        go_wp2_with (fail)
        go_roundw
        case rel => exact ⟨j + 1, Λ'.put j (Λ'.T j) (Λ'.g j) (Λ'.bp j) (Λ'.cp j) noF, by omega, by go_num, hq, hcap, hrel2.out⟩
        case measure => simp [RowKit.intOf]; omega
      · have e1 : chs l j = [] := by unfold chs; rw [List.getD_eq_getElem?_getD, List.getElem?_eq_none (by omega)]; rfl
        have cm := crash_any hp (.slice none 0 0) [] (.inl ⟨⟨_, _, rfl⟩, rfl⟩) (fun hne => absurd rfl hne) (fun c hc => by cases hc) (by simp) (hv j hlt)
        rw [← e1] at cm
        have jl : ¬ (j : Int) < (l.length : Int) := by omega
        clear hc2 hp hB e1 hjl hb2
        go_wp2_with (fail)
        refine cm.mono ?_
        rintro e w4 ⟨rfl, hs4, hp4⟩
        obtain ⟨s5, hB5⟩ := hB2.turnS (st := crashM (M j) (chs l j)) hlt hs4 hp4
        have hrel2 := Lib.hid (And.intro (hS2.trans s5) (hB5.congr (fun i _ => hM2 i)))
        clear hB2 hS2 hs4 hp4 s5 hB5 cm hM2 hTS
        go_wp2_with (fail)
        go_roundw
        case rel => exact ⟨j + 1, Λ'.put j (Λ'.T j) (Λ'.g j) (Λ'.bp j) (Λ'.cp j) noF, by omega, by go_num, hq, hcap, hrel2.out⟩
        case measure => simp [RowKit.intOf]; omega
    · obtain rfl : j = n := by omega
      have c1 := hB.c1
      have f1 := hB.f 1
      obtain ⟨h5, s5⟩ := hB.setK 1 (.bool false) false acts armed rfl
      have c3 := h5.c3
      have f3 := h5.f 3
      obtain ⟨h6, s6⟩ := h5.setK 3 (.int .i64 0) false acts 0 rfl
      have hS6 := hS.trans (s5.trans s6)
      have hfin := Lib.hid (And.intro hS6 (hMade.out.made hS6 (h6.congr (M' := fun i => crashM (M i) (chs l i)) (fun i hi => by rw [if_pos hi]))))
      clear hB h5 h6 s5 s6 hS hS6 hlt
      go_wp2_with (fail)
      go_end0
      exact ⟨rfl, hfin.out⟩
end Go.Proofs.YtfadglcpapiklaaGreatDoor
end
section
namespace Go.Proofs.YtfadglcpapiklaaGreatDoor
open Go.RowKit
set_option linter.unusedVariables false
set_option linter.unusedSimpArgs false
set_option maxRecDepth 100000

theorem strs_is9 : ∃ i, Tryz.prog.info? 54 = some i ∧ i.zero = some (.slice none 0 0) ∧ i.size = 1 ∧ i.bytes = 24 := (cont_gen (P := Tryz.prog) (t := 54) (c := .slice none 0 0) (n := 1) (k := 24) (by kernel_rfl)).2
/-- Rows of texts in a row, all of one's own; no block of S among them. -/
structure Was (w : World) (B : Nat) (S : Nat → Prop) (j : Nat) (v : Value) (X : Nat → Value) (D : Nat → List ByteArray) : Prop where
  o : Own w B 54 v (rowV j X)
  r : ∀ i, i < j → Own w B 9 (X i) ((D i).map .string)
  a : ∀ i, i < j → Apart (X i) v
  sv : ∀ b, v.ownBlock = some b → ¬ S b
  sx : ∀ i, i < j → ∀ b, (X i).ownBlock = some b → ¬ S b
section
variable {w w' : World} {B j : Nat} {S S' : Nat → Prop} {v : Value} {X : Nat → Value} {D : Nat → List ByteArray}
theorem Was.nil (w : World) (B : Nat) (S : Nat → Prop) (X : Nat → Value) (D : Nat → List ByteArray) : Was w B S 0 (.slice none 0 0) X D :=
  ⟨Own.nil _ _ _, fun i h => absurd h (Nat.not_lt_zero _), fun i h => absurd h (Nat.not_lt_zero _), fun b h => (by cases h), fun i h => absurd h (Nat.not_lt_zero _)⟩
theorem Was.after (h : Was w B S j v X D) (hb : Below w.heap.size w w') : Was w' B S j v X D := ⟨h.o.after hb, fun i hi => (h.r i hi).after hb, h.a, h.sv, h.sx⟩
theorem Was.step (h : Was w B S j v X D) (hs : Stp S S' w w') : Was w' B S' j v X D := by
  have old : ∀ b, b < w.heap.size → ¬ S b → ¬ S' b := fun b hb hn hs' => by
    rcases hs.grow b hs' with z | z
    · exact hn z
    · omega
  exact ⟨h.o.sameAt fun b hb => hs.oth b (h.o.o.lt b hb).2 (h.sv b hb), fun i hi => (h.r i hi).sameAt fun b hb => hs.oth b ((h.r i hi).o.lt b hb).2 (h.sx i hi b hb), h.a,
    fun b hb => old b (h.o.o.lt b hb).2 (h.sv b hb), fun i hi b hb => old b ((h.r i hi).o.lt b hb).2 (h.sx i hi b hb)⟩
/-- One more row is appended. -/
theorem Was.push (h : Was w B S j v X D) (hB : B ≤ w.heap.size) (hj : j ≤ 1000) {x n : Nat} {l : List ByteArray} {w2 : World} (hb2 : Below w.heap.size w w2) (ho : Own w2 w.heap.size 9 (.slice (some ⟨x, 0, none⟩) n n) (l.map .string)) (hS : ∀ b, S b → b < w.heap.size) :
    ∃ v' w3, (∃ a n c, v' = .slice a n c) ∧ (Builtin.append_ #[53, 53] 53 #[v, .slice (some ⟨w2.heap.size, 0, none⟩) 1 1]).run Tryz.prog (w2.alloc (.cells #[.slice (some ⟨x, 0, none⟩) n n] 54)) = .ok v' w3 ∧
      Was w3 B S (j + 1) v' (upd X j (.slice (some ⟨x, 0, none⟩) n n)) (upd D j l) ∧ Below B w2 w3 ∧ ∀ b, S b → w3.heap[b]? = w2.heap[b]? := by
  obtain ⟨si, s1, s2, s3, s4⟩ := strs_is9
  have h2 := h.after hb2
  have hsz := hb2.size
  obtain ⟨v', w3, hap, ho3, hb3, hk, hv⟩ := Own.pushA (P := Tryz.prog) (T := 53) Tryz.underlying53 s1 s2 s3 s4 rfl h2.o (.slice (some ⟨x, 0, none⟩) n n) rfl (by omega) (by rw [rowV_len]; omega) (by rw [rowV_len]; omega)
  obtain ⟨gv, cv, ev, _, _⟩ := ho3.form (by simp)
  have hxw : w.heap.size ≤ x ∧ x < w2.heap.size := ho.lt
  have xv : Apart (.slice (some ⟨x, 0, none⟩) n n) v := fun b hb e => by
    have e1 : x = b := by simpa [Value.ownBlock] using hb
    have := (h.o.o.lt b e).2; omega
  have vnew : ∀ b, v'.ownBlock = some b → v.ownBlock = some b ∨ b = w2.heap.size + 1 := fun b e => by
    rcases hv with z | z
    · exact .inl (by rw [← z]; exact e)
    · rw [z] at e; injection e with e; exact .inr e.symm
  refine ⟨v', w3, ⟨_, _, _, ev⟩, hap, ⟨?_, fun i hi => ?_, fun i hi => ?_, fun b hb => ?_, fun i hi b hb => ?_⟩, hb3, fun b hb => hk b (Nat.lt_of_lt_of_le (hS b hb) hsz) (fun e => h.sv b e hb)⟩
  · have e : rowV j X ++ [.slice (some ⟨x, 0, none⟩) n n] = rowV (j + 1) (upd X j (.slice (some ⟨x, 0, none⟩) n n)) := by
      unfold rowV
      rw [List.range_succ, List.map_append]
      congr 1
      · apply List.map_congr_left
        intro i hi
        have := List.mem_range.1 hi
        rw [upd_other _ _ _ _ (by omega)]
      · simp [upd]
    rw [← e]; exact ho3
  · by_cases e : i = j
    · subst e
      rw [upd_same, upd_same]
      exact (ho.mono hB).kept hk xv
    · rw [upd_other _ _ _ _ e, upd_other _ _ _ _ e]
      exact (h2.r i (by omega)).kept hk (h.a i (by omega))
  · by_cases e : i = j
    · subst e
      rw [upd_same]
      exact Apart.push ho xv hv
    · rw [upd_other _ _ _ _ e]
      exact Apart.push (h2.r i (by omega)) (h.a i (by omega)) hv
  · rcases vnew b hb with z | z
    · exact h.sv b z
    · exact fun hs => by have := hS b hs; omega
  · by_cases e : i = j
    · subst e
      rw [upd_same] at hb
      have e1 : x = b := by simpa [Value.ownBlock] using hb
      exact fun hs => by have := hS b hs; omega
    · rw [upd_other _ _ _ _ e] at hb; exact h.sx i (by omega) b hb
theorem Was.cell {q n c : Nat} (h : Was w B S j (.slice (some ⟨q, 0, none⟩) n c) X D) {i : Nat} (hi : i < j) : w.cell? ⟨q, i, none⟩ = some (X i) := by
  rw [h.o.cell (i := i) (by rw [rowV_len]; exact hi), rowV_get _ _ _ hi]
end
end Go.Proofs.YtfadglcpapiklaaGreatDoor
end
section
namespace Go.Proofs.YtfadglcpapiklaaGreatDoor
open Go.RowKit Go.ChangeShapes Go.WideShapes Go.Deep
set_option linter.unusedVariables false
set_option linter.unusedSimpArgs false
set_option maxRecDepth 100000

def asS : Value → Value
  | .slice a n c => .slice a n c
  | _ => .slice none 0 0
theorem asS_one (v : Value) : (asS v).oneCell' = true := by cases v <;> rfl
theorem asS_of {w : World} {v : Value} {xs : List Value} (h : Reads w v xs) : asS v = v := by
  rcases h with ⟨⟨a, c, rfl⟩, _⟩ | ⟨b, o, c, rfl, _⟩ <;> rfl
def cE : Enc (Value × List Int) := ⟨1, fun x => [asS x.1], by omega, fun _ => rfl, fun x u hu => by rw [List.mem_singleton.1 hu]; exact asS_one _⟩
theorem cE_all (l : List (Value × List Int)) : cE.all l = l.map fun x => asS x.1 := by
  induction l with
  | nil => rfl
  | cons x l ih => rw [cE.all_cons, ih]; rfl
/-- What a list of numbers is told as. -/
def IntsD {H : Type} (d : DataW H) (l : List Int) : Prop := d = .nil ∧ l = [] ∨ ∃ spare, d = .slice (l.map fun n => .lit (.int .i64 n)) spare
theorem rows_cells : Tryz.prog.cellsOf 24 = 1 := by kernel_rfl
theorem int_cells : Tryz.prog.cellsOf 3 = 1 := by kernel_rfl
section
variable {H : Type} {enc : TypeId × Value → H} {w : World} {base b0 : Nat} {held : Bool} {r : Reach} {ts : List TypeId} {ds : List (DataW H)}
theorem ints_in {n : Nat} {cs : List Value} {y : DataW H × List MemPlace} (h : DataW.trod enc Tryz.prog w base (fun _ => true) held n 24 cs = some y) :
    ∃ (q : Value) (l : List Int), cs = [q] ∧ Reads w q (l.map (.int .i64)) ∧ (∀ n ∈ l, In64 n) ∧ IntsD y.1 l := by
  rcases open_ints Tryz.underlying24 Tryz.underlying3 int_cells h with ⟨hcs, rfl⟩ | ⟨a, len, cap, ss, hcs, _, hl, hm, hz, rfl, hcell, hwf⟩
  · exact ⟨_, [], hcs, .inl ⟨⟨_, _, rfl⟩, rfl⟩, (fun n hn => by cases hn), .inl ⟨rfl, rfl⟩⟩
  · simp only [if_true] at hz
    refine ⟨_, ss.take len, hcs, ?_, fun n hn => hwf n (List.mem_of_mem_take hn), .inr ⟨_, rfl⟩⟩
    rcases Nat.eq_zero_or_pos len with rfl | hpos
    · exact .inl ⟨⟨_, _, rfl⟩, rfl⟩
    · have h0 := hcell 0 (by omega)
      obtain ⟨b, off, spot⟩ := a
      have hb : b < w.heap.size ∧ spot = none := by
        unfold World.cell? at h0
        have e1 : ((⟨b, off, spot⟩ : Addr).add 0).block = b := by unfold Addr.add; split <;> rfl
        rw [e1] at h0
        split at h0
        · rename_i c T0 F0 hb
          refine ⟨(Array.getElem?_eq_some_iff.1 hb).1, ?_⟩
          cases spot with
          | none => rfl
          | some s => simp [Addr.add] at h0
        · cases h0
      obtain ⟨hb, rfl⟩ := hb
      refine .inr ⟨b, off, cap, by simp; omega, hb, fun i hi => ?_⟩
      have hi' : i < len := by simp at hi; omega
      have := hcell i (by omega)
      rw [addr_at] at this
      rw [this]
      simp [List.getD_eq_getElem?_getD, List.getElem?_take, hi', show i < ss.length by omega]
theorem intsD_len {d : DataW H} {l : List Int} (h : IntsD d l) (hw : LightD Tryz.prog 24 d) : l.length ≤ 140737488351232 := by
  rcases h with ⟨_, rfl⟩ | ⟨spare, rfl⟩
  · simp
  · have h1 := light_len hw Tryz.underlying24 (of_decide_eq_true (by kernel_rfl))
    simpa using h1
/-- Choices in a cell. -/
theorem chs_pre {n : Nat} {q : Value} {y : DataW H × List MemPlace} (h : DataW.trod enc Tryz.prog w base (fun _ => true) held n 67 [q] = some y) :
    ∃ l : List (Value × List Int), asS q = q ∧ (LightD Tryz.prog 67 y.1 → ChR w q l ∧ l.length ≤ 140737488355328) := by
  haveI : Inhabited (Value × List Int) := ⟨(.slice none 0 0, [])⟩
  obtain ⟨l, v', e, R, ⟨a, c, hv', _⟩, _, D⟩ := open_structs cE Tryz.underlying67 rows_cells (Good := fun x y => Reads w x.1 (x.2.map (.int .i64)) ∧ (∀ n ∈ x.2, In64 n) ∧ IntsD y x.2) (fun n cs y hy => by
    obtain ⟨q, l, rfl, h2, h3, h4⟩ := ints_in hy
    exact ⟨(q, l), by show [q] = [asS q]; rw [asS_of h2], h2, h3, h4⟩) h
  obtain rfl : v' = q := by simpa using e.symm
  refine ⟨l, by rw [hv']; rfl, fun hw => ?_⟩
  have hall : ∀ x ∈ l, Reads w x.1 (x.2.map (.int .i64)) ∧ (∀ n ∈ x.2, In64 n) ∧ x.2.length ≤ 140737488355328 := fun x hx => by
    obtain ⟨y, ⟨h1, h2, h3⟩, h4⟩ := D.each hw Tryz.underlying67 x hx
    exact ⟨h1, h2, Nat.le_trans (intsD_len h3 h4) (by omega)⟩
  refine ⟨⟨?_, hall⟩, Nat.le_trans (D.len hw Tryz.underlying67 (of_decide_eq_true (by kernel_rfl))) (by omega)⟩
  have em : l.map Prod.fst = cE.all l := by
    rw [cE_all]
    exact List.map_congr_left fun x hx => (asS_of (hall x hx).1).symm
  rw [em]
  rcases R with ⟨h1, rfl⟩ | ⟨b, off, cap, rfl, h2, h3⟩
  · exact .inl ⟨h1, rfl⟩
  · have hle : (cE.all l).length = l.length := by rw [cE_all, List.length_map]
    refine .inr ⟨b, off, cap, by rw [hle], h2, fun i hi => h3 i _ ?_⟩
    rw [List.getD_eq_getElem?_getD, List.getElem?_eq_getElem hi]; rfl
theorem chs_in {n : Nat} {q : Value} {y : DataW H × List MemPlace} (h : DataW.trod enc Tryz.prog w base (fun _ => true) held n 67 [q] = some y) (hw : LightD Tryz.prog 67 y.1) :
    ∃ l : List (Value × List Int), ChR w q l ∧ l.length ≤ 140737488355328 := by
  obtain ⟨l, _, h2⟩ := chs_pre h
  exact ⟨l, h2 hw⟩
theorem open_chs {v : Value} {d : DataW H} {p : List MemPlace} (hv : Value.okWide Tryz.prog w r b0 67 v) (h : DataW.Trod enc Tryz.prog w base (fun _ => true) held 67 v d p) (hsz : (DataW.weightsEach Tryz.prog ts ds).all (· ≤ reachBytes) = true) {j : Nat} (ht : ts[j]? = some 67) (hd : ds[j]? = some d) :
    ∃ l : List (Value × List Int), ChR w v l ∧ l.length ≤ 140737488355328 := by
  obtain ⟨a0, len0, cap0, rfl⟩ := okWide_slice Tryz.underlying67 hv
  obtain ⟨fuel, hf⟩ := h
  exact chs_in (y := (d, p)) hf (light_arg hsz ht hd)
end
end Go.Proofs.YtfadglcpapiklaaGreatDoor
end
section
namespace Go.Proofs.YtfadglcpapiklaaGreatDoor
open Go.RowKit
set_option linter.unusedVariables false
set_option linter.unusedSimpArgs false

set_option maxRecDepth 100000 in
set_option maxHeartbeats 1000000 in
theorem ints8_any (va vb : Value) (a b : List Int) (w : World) (hA : Reads w va (a.map (.int .i64))) (hB : Reads w vb (b.map (.int .i64))) (fan : a.length ≤ 140737488355328) (fbn : b.length ≤ 140737488355328) :
    Calls Tryz.prog 21 #[va, vb] w (SaysB w (decide (a = b))) := by
  have la := fun W => hA.len_run (P := Tryz.prog) Tryz.underlying24 3 W
  have lb := fun W => hB.len_run (P := Tryz.prog) Tryz.underlying24 3 W
  rw [List.length_map] at la lb
  by_cases h1 : a.length = b.length
  · have t1 : (((a.length : Nat) : Int) != ((b.length : Nat) : Int)) = false := by rw [h1]; exact bne_self_eq_false _
    have h1' := Lib.hid h1
    obtain ⟨pa, ca, rfl, cellA⟩ := hA.items
    obtain ⟨pb, cb, rfl, cellB⟩ := hB.items
    clear h1 la lb hA hB
    go_enter Tryz.func21, Tryz.ntmps21
    go_wp2_with (fail)
    go_loopw [5] (fun i wr => ∃ k : Nat, k ≤ a.length ∧ i = .int .i64 (k : Int) ∧ Quiet w wr ∧ Hid (∀ j (h1 : j < a.length) (h2 : j < b.length), j < k → a[j] = b[j])) (fun i _ => a.length - (RowKit.intOf i).toNat)
    case atStart => exact ⟨0, by omega, rfl, Quiet.refl _, Lib.hid (fun j _ _ hj => by omega)⟩
    case round =>
      obtain ⟨k, hk, rfl, hq, hj⟩ := hrel
      rename World => wr
      by_cases hlt : k < a.length
      · have hltb : k < b.length := by have := h1'.out; omega
        obtain ⟨xb, xo, rfl, hxb, hxc⟩ := cellA k hlt
        obtain ⟨yb, yo, rfl, hyb, hyc⟩ := cellB k hltb
        have hca : wr.cell? ⟨xb, xo + k, none⟩ = some (.int .i64 a[k]) := by rw [hq.cell]; exact hxc
        have hcb : wr.cell? ⟨yb, yo + k, none⟩ = some (.int .i64 b[k]) := by rw [hq.cell]; exact hyc
        have b1 : (k : Int) < (a.length : Int) := by omega
        have b2 : (k : Int) < (b.length : Int) := by omega
        clear hxc hyc
        by_cases he : a[k] = b[k]
        · have hj' : Hid (∀ j (h1 : j < a.length) (h2 : j < b.length), j < k + 1 → a[j] = b[j]) := Lib.hid (fun j h1 h2 hjk => by
            by_cases e : j = k
            · subst e; exact he
            · exact hj.out j h1 h2 (by omega))
          rw [← he] at hcb
          have tq' : (a[k] != a[k]) = false := bne_self_eq_false _
          clear he hj
          generalize a[k] = rk at *
          go_wp2
          go_quiet (fail)
          go_wp2
          go_roundw
          case rel => exact ⟨k + 1, by omega, by go_num, hq.drewN _, hj'⟩
          case measure => simp [RowKit.intOf]; omega
        · have hz : Hid (decide (a = b) = false) := Lib.hid (by
            rw [decide_eq_false_iff_not]
            intro e; subst e; exact he rfl)
          have tq' : (a[k] != b[k]) = true := by rw [bne_iff_ne]; exact he
          have tq : (a[k] == b[k]) = false := by rw [beq_eq_false_iff_ne]; exact he
          clear he hj
          generalize a[k] = rk at *
          generalize b[k] = qk at *
          go_wp2
          go_quiet (fail)
          go_wp2
          go_ret
          exact ⟨by rw [hz.out]; rfl, (hq.drewN _).1, (hq.drewN _).2⟩
      · have hz : Hid (decide (a = b) = true) := Lib.hid (by
          rw [decide_eq_true_eq]
          exact List.ext_getElem h1'.out fun i h2 h3 => hj.out i h2 h3 (by omega))
        obtain rfl : k = a.length := by omega
        clear hj
        go_wp2
        go_ret
        exact ⟨by rw [hz.out]; rfl, hq.1, hq.2⟩
  · have t1 : (((a.length : Nat) : Int) != ((b.length : Nat) : Int)) = true := by rw [bne_iff_ne]; omega
    have hz : Hid (decide (a = b) = false) := Lib.hid (by
      rw [decide_eq_false_iff_not]
      intro e; exact h1 (by rw [e]))
    clear h1
    go_enter Tryz.func21, Tryz.ntmps21
    go_wp2
    go_ret
    exact ⟨by rw [hz.out]; rfl, Below.refl _ _, rfl⟩
def MA (w : World) (S : Nat → Prop) (w' : World) (m : Nat) (M : Mst) : Prop := ∃ g bp cap, MS w S w' m g bp cap M.fd M.L M.V
def QA (w : World) (S : Nat → Prop) (w' : World) (m : Nat) (M : Mst) : Prop := QS w S w' m M.fd M.L M.V
def VOk (M : Mst) : Prop := ∀ z, (M.V z).length ≤ 1000000000000
theorem hasN_nat {L : List ByteArray} {n : Int} (h : hasN L n = true) : ∃ i : Nat, n = (i : Int) ∧ i < L.length := by
  unfold hasN at h
  rw [Bool.and_eq_true, decide_eq_true_iff, decide_eq_true_iff] at h
  obtain ⟨i, rfl⟩ := Int.eq_ofNat_of_zero_le h.1
  exact ⟨i, rfl, by omega⟩
def wrE (M : Mst) (n : Int) (s : ByteArray) : Int := if M.fd = true then 80 else if hasN M.L n = true ∧ s.size = 128 then 0 else 81
def wrM (M : Mst) (n : Int) (s : ByteArray) : Mst := if M.fd = false ∧ hasN M.L n = true ∧ s.size = 128 then ⟨M.fd, M.L, updZ M.V n (M.V n ++ [s])⟩ else M
def flE (M : Mst) : Int := if M.fd = true then 80 else 0
def flM (M : Mst) : Mst := if M.fd = true then M else ⟨false, flush M.L M.V, noV⟩
def blM (M : Mst) : Mst := ⟨false, List.replicate M.L.length zero128, noV⟩
def faM (M : Mst) : Mst := ⟨true, List.replicate M.L.length zero128, noV⟩
def roM (M : Mst) (n at_ bits : Int) : Mst := if rotB M.fd M.L M.V n at_ bits = true then ⟨false, M.L.set n.toNat (rotS (M.L.getD n.toNat zero128) at_.toNat bits.toNat), M.V⟩ else M
def rdS (M : Mst) (n : Int) : ByteArray := if M.fd = true then ⟨#[]⟩ else if hasN M.L n = true then lastOf (M.V n) (M.L.getD n.toNat zero128) else ⟨#[]⟩
def rdE (M : Mst) (n : Int) : Int := if M.fd = true then 80 else if hasN M.L n = true then 0 else 81
def imL (M : Mst) : List ByteArray := if M.fd = true then [] else M.L
theorem rotB_nat {fd : Bool} {L : List ByteArray} {V : Int → List ByteArray} {n at_ bits : Int} (h : rotB fd L V n at_ bits = true) : fd = false ∧ ∃ i j b : Nat, n = (i : Int) ∧ at_ = (j : Int) ∧ bits = (b : Int) ∧ i < L.length ∧ j < 128 ∧ b < 256 := by
  have h' := h
  unfold rotB at h
  simp only [Bool.not_eq_true', Bool.or_eq_false_iff, Bool.not_eq_false', decide_eq_false_iff_not] at h
  obtain ⟨h0, hh, hv, h1, h2, h3, h4⟩ := h
  obtain ⟨i, rfl, hi⟩ := hasN_nat hh
  obtain ⟨j, rfl⟩ := Int.eq_ofNat_of_zero_le (show 0 ≤ at_ by omega)
  obtain ⟨b, rfl⟩ := Int.eq_ofNat_of_zero_le (show 0 ≤ bits by omega)
  exact ⟨h0, i, j, b, rfl, rfl, rfl, hi, by omega, by omega⟩
/-- How long what is pending may be. -/
def Vn (M : Mst) (n : Nat) : Prop := ∀ z, (M.V z).length ≤ n
theorem Vn.wr {M : Mst} {n : Nat} (h : Vn M n) (z : Int) (s : ByteArray) : Vn (wrM M z s) (n + 1) := fun y => by
  unfold wrM
  split
  · show (updZ M.V z (M.V z ++ [s]) y).length ≤ n + 1
    unfold updZ
    split
    · rw [List.length_append]; have := h z; simp; omega
    · have := h y; omega
  · have := h y; omega
theorem Vn.le {M : Mst} {n k : Nat} (h : Vn M n) (hk : n ≤ k) : Vn M k := fun y => Nat.le_trans (h y) hk
theorem Vn.fl {M : Mst} {n : Nat} (h : Vn M n) : Vn (flM M) n := fun y => by
  unfold flM; split
  · exact h y
  · exact Nat.zero_le _
theorem Vn.none (fd : Bool) (L : List ByteArray) (n : Nat) : Vn ⟨fd, L, noV⟩ n := fun y => Nat.zero_le _
section
variable {w w1 w2 : World} {S T T' : Nat → Prop} {m : Nat} {M : Mst}
theorem MA.lt (h : MA w S w1 m M) : ∀ k, S k → k < w1.heap.size := by obtain ⟨g, bp, cap, h⟩ := h; exact h.lt
theorem MA.from (h : MA w S w1 m M) : ∀ k, S k → w.heap.size ≤ k := by obtain ⟨g, bp, cap, h⟩ := h; exact h.from
theorem MA.b (h : MA w S w1 m M) : Below w.heap.size w w1 := by obtain ⟨g, bp, cap, h⟩ := h; exact h.b
theorem MA.after (h : MA w S w1 m M) (hb : Below w1.heap.size w1 w2) : MA w S w2 m M := by obtain ⟨g, bp, cap, h⟩ := h; exact ⟨g, bp, cap, h.after hb⟩
theorem MA.step (h : MA w S w1 m M) (hs : Stp T T' w1 w2) (hT : ∀ k, T k → w.heap.size ≤ k) (hST : ∀ k, S k → ¬ T k) : MA w S w2 m M ∧ ∀ k, S k → ¬ T' k := by
  obtain ⟨g, bp, cap, h⟩ := h
  obtain ⟨h1, h2⟩ := h.step hs hT hST
  exact ⟨⟨g, bp, cap, h1⟩, h2⟩
theorem MA.n2 (h : MA w S w1 m M) : M.L.length ≤ 256 := by obtain ⟨g, bp, cap, h⟩ := h; exact h.n2
theorem QA.lt (h : QA w S w1 m M) : ∀ k, S k → k < w1.heap.size := by obtain ⟨q, cap, F, h1, h2⟩ := h.h; exact h2.lt
theorem QA.from (h : QA w S w1 m M) : ∀ k, S k → w.heap.size ≤ k := by obtain ⟨q, cap, F, h1, h2⟩ := h.h; exact h1
theorem QA.after (h : QA w S w1 m M) (hb : Below w1.heap.size w1 w2) : QA w S w2 m M := by
  obtain ⟨q, cap, F, h1, h2⟩ := h.h
  exact ⟨QS.b h |>.trans (hb.mono (QS.b h).size), q, cap, F, h1, h2.below hb⟩
theorem QA.step (h : QA w S w1 m M) (hs : Stp T T' w1 w2) (hT : ∀ k, T k → w.heap.size ≤ k) (hST : ∀ k, S k → ¬ T k) : QA w S w2 m M ∧ ∀ k, S k → ¬ T' k := by
  obtain ⟨q, cap, F, h1, h2⟩ := h.h
  exact ⟨⟨(QS.b h).trans (hs.below hT (QS.b h).size), q, cap, F, h1, h2.heap (fun k hk => hs.oth k (h2.lt k hk) (hST k hk)) hs.b0.size⟩, fun k hk hk2 => by
    rcases hs.grow k hk2 with x | x
    · exact hST k hk x
    · have := h2.lt k hk; omega⟩
theorem QA.made (h : QA w S w1 m M) {fd : Bool} {L : List ByteArray} {V : Int → List ByteArray} (hq : QStep w1 S m fd L V w2) : ∃ S', Stp S S' w1 w2 ∧ QA w S' w2 m ⟨fd, L, V⟩ := by
  obtain ⟨S', q, cap, F, hs, hb⟩ := hq
  refine ⟨S', hs, ⟨(QS.b h).trans (hs.below (QA.from h) (QS.b h).size), q, cap, F, fun k hk => ?_, hb⟩⟩
  rcases hs.grow k hk with x | x
  · exact QA.from h k x
  · exact Nat.le_trans (QS.b h).size x
end
/-- What a call leaves: a value, and the member as it is then. -/
def MDoes (w : World) (S : Nat → Prop) (w1 : World) (m : Nat) (M : Mst) (u : Value) (e : Ending) (w' : World) : Prop := e = .returned u ∧ ∃ S', Stp S S' w1 w' ∧ MA w S' w' m M
section
variable {w w1 : World} {S : Nat → Prop} {m : Nat} {M : Mst}
theorem ma_write (h : MA w S w1 m M) (n : Int) (s : ByteArray) (hv : VOk M) :
    Calls Tryz.prog 71 #[.pointer (some ⟨m, 0, none⟩), .int .i64 n, .string s] w1 (MDoes w S w1 m (wrM M n s) (.int .i64 (wrE M n s))) := by
  obtain ⟨g, bp, cap, h'⟩ := h
  obtain ⟨fd, L, V⟩ := M
  unfold wrE wrM
  cases fd with
  | true =>
    rw [if_neg (by simp), if_pos rfl]
    exact (ms_writed h' n s).mono fun e w' ⟨he, hw⟩ => by subst hw; exact ⟨he, S, Stp.refl _ _, g, bp, cap, h'⟩
  | false =>
    by_cases hc : hasN L n = true ∧ s.size = 128
    · obtain ⟨i, rfl, hi⟩ := hasN_nat hc.1
      rw [if_pos ⟨rfl, hc⟩, if_neg (by simp), if_pos hc]
      exact (ms_write h' i hi s hc.2 (hv i)).mono fun e w' ⟨S', he, hs, hm⟩ => ⟨he, S', hs, g, bp, cap, hm⟩
    · rw [if_neg (fun x => hc x.2), if_neg (by simp), if_neg hc]
      exact (ms_writer h' n s (by
        cases e : hasN L n
        · exact .inl rfl
        · exact .inr fun x => hc ⟨e, x⟩)).mono fun e w' ⟨he, hw⟩ => by subst hw; exact ⟨he, S, Stp.refl _ _, g, bp, cap, h'⟩
theorem ma_flush (h : MA w S w1 m M) (hv : VOk M) :
    Calls Tryz.prog 72 #[.pointer (some ⟨m, 0, none⟩)] w1 (MDoes w S w1 m (flM M) (.int .i64 (flE M))) := by
  obtain ⟨g, bp, cap, h'⟩ := h
  obtain ⟨fd, L, V⟩ := M
  unfold flE flM
  cases fd with
  | true => exact (ms_flushd h').mono fun e w' ⟨he, hw⟩ => by subst hw; exact ⟨he, S, Stp.refl _ _, g, bp, cap, h'⟩
  | false => exact (ms_flush h' hv).mono fun e w' ⟨he, hs, hm⟩ => ⟨he, S, hs, g, bp, cap, hm⟩
theorem ma_read (h : MA w S w1 m M) (n : Int) (hv : VOk M) : Calls Tryz.prog 137 #[.pointer (some ⟨m, 0, none⟩), .int .i64 n] w1 fun e w' => e = .returned (.tuple #[.string (rdS M n), .int .i64 (rdE M n)]) ∧ Below w1.heap.size w1 w' := by
  obtain ⟨g, bp, cap, h'⟩ := h
  obtain ⟨fd, L, V⟩ := M
  unfold rdS rdE
  cases fd with
  | true => exact (ms_readd h' n).mono fun e w' ⟨he, hw⟩ => by subst hw; exact ⟨he, Below.refl _ _⟩
  | false =>
    by_cases hc : hasN L n = true
    · obtain ⟨i, rfl, hi⟩ := hasN_nat hc
      rw [if_neg (by simp), if_pos hc, if_neg (by simp), if_pos hc, Int.toNat_natCast]
      dsimp only
      rw [List.getD_eq_getElem?_getD, List.getElem?_eq_getElem hi]
      exact (ms_read h' i hi (hv i)).mono fun e w' ⟨he, hb⟩ => ⟨he, hb⟩
    · rw [if_neg (by simp), if_neg hc, if_neg (by simp), if_neg hc]
      exact (ms_readr h' n (by cases e : hasN L n; rfl; exact absurd e hc)).mono fun e w' ⟨he, hw⟩ => by subst hw; exact ⟨he, Below.refl _ _⟩
theorem ma_size (h : MA w S w1 m M) : Calls Tryz.prog 107 #[.pointer (some ⟨m, 0, none⟩)] w1 fun e w' => e = .returned (.int .i64 (M.L.length : Int)) ∧ w1 = w' := by
  obtain ⟨g, bp, cap, h'⟩ := h
  exact ms_size h'
end
end Go.Proofs.YtfadglcpapiklaaGreatDoor
end
section
namespace Go.Proofs.YtfadglcpapiklaaGreatDoor
open Go.RowKit
set_option linter.unusedVariables false
set_option linter.unusedSimpArgs false
set_option maxRecDepth 100000

/-- What a rack is. -/
structure Rk where
  M : Nat → Mst
  off : Bool
  acts : Int
  armed : Int
def RA (w : World) (S : Nat → Prop) (w' : World) (k n : Nat) (R : Rk) : Prop := RS w S w' k n R.M R.off R.acts R.armed
def ROk (n : Nat) (R : Rk) (b : Nat) : Prop := (0 ≤ R.acts ∧ R.acts ≤ b) ∧ (0 ≤ R.armed ∧ R.armed ≤ 1099511627776) ∧ ∀ i, i < n → Vn (R.M i) b
def akE (n : Nat) (R : Rk) (s : Int) : Int := if hasK n s = true then (if R.off = true then 90 else if R.armed = 1 then 90 else 0) else 91
def akR (n : Nat) (R : Rk) (s : Int) : Rk := if hasK n s = true ∧ R.off = false then ⟨R.M, decide (R.armed = 1), R.acts + 1, nxt R.armed⟩ else R
def rhE (n : Nat) (R : Rk) (s : Int) : Int := if hasK n s = true then (if R.off = true then 90 else 0) else 91
def wrR (n : Nat) (R : Rk) (s at_ : Int) (t : ByteArray) : Rk := if akE n R s = 0 then { akR n R s with M := upd R.M s.toNat (wrM (R.M s.toNat) at_ t) } else akR n R s
def wrRE (n : Nat) (R : Rk) (s at_ : Int) (t : ByteArray) : Int := if akE n R s = 0 then wrE (R.M s.toNat) at_ t else akE n R s
def flR (n : Nat) (R : Rk) (s : Int) : Rk := if akE n R s = 0 then { akR n R s with M := upd R.M s.toNat (flM (R.M s.toNat)) } else akR n R s
def flRE (n : Nat) (R : Rk) (s : Int) : Int := if akE n R s = 0 then flE (R.M s.toNat) else akE n R s
def rdRS (n : Nat) (R : Rk) (s at_ : Int) : ByteArray := if rhE n R s = 0 then rdS (R.M s.toNat) at_ else ⟨#[]⟩
def rdRE (n : Nat) (R : Rk) (s at_ : Int) : Int := if rhE n R s = 0 then rdE (R.M s.toNat) at_ else rhE n R s
def arOk (a : Int) : Bool := decide (0 ≤ a) && decide (a ≤ 1099511627776)
def arR (R : Rk) (a : Int) : Rk := if arOk a = true then { R with armed := a } else R
def arE (a : Int) : Int := if arOk a = true then 0 else 1
def reR (R : Rk) (l : List (Value × List Int)) : Rk := ⟨fun i => crashM (R.M i) (chs l i), false, R.acts, 0⟩
def upR (n : Nat) (R : Rk) (s : Int) (f : Mst → Mst) : Rk := if hasK n s = true then { R with M := upd R.M s.toNat (f (R.M s.toNat)) } else R
def roRB (n : Nat) (R : Rk) (s a j b : Int) : Bool := hasK n s && rotB (R.M s.toNat).fd (R.M s.toNat).L (R.M s.toNat).V a j b
def imR (n : Nat) (R : Rk) (s : Int) : List ByteArray := if hasK n s = true then imL (R.M s.toNat) else []
def peR (n : Nat) (R : Rk) (s : Int) : Int := if hasK n s = true then ((pend (R.M s.toNat).L.length (R.M s.toNat).V).length : Int) else 0
theorem hasK_is {n : Nat} {s : Int} (h : hasK n s = true) : ∃ i : Nat, s = (i : Int) ∧ i < n := by
  unfold hasK at h
  rw [Bool.and_eq_true, decide_eq_true_iff, decide_eq_true_iff] at h
  obtain ⟨i, rfl⟩ := Int.eq_ofNat_of_zero_le h.1
  exact ⟨i, rfl, by omega⟩
theorem hasK_or (n : Nat) (s : Int) : hasK n s = false ∨ ∃ i : Nat, s = (i : Int) ∧ i < n ∧ hasK n s = true := by
  cases h : hasK n s
  · exact .inl rfl
  · obtain ⟨i, h1, h2⟩ := hasK_is h
    exact .inr ⟨i, h1, h2, rfl⟩
theorem ROk.ak {n : Nat} {R : Rk} {b : Nat} (h : ROk n R b) (s : Int) : ROk n (akR n R s) (b + 1) := by
  obtain ⟨h1, h2, h3⟩ := h
  unfold akR
  split
  · refine ⟨⟨by show 0 ≤ R.acts + 1; omega, by show R.acts + 1 ≤ _; omega⟩, ?_, fun i hi => (h3 i hi).le (by omega)⟩
    show 0 ≤ nxt R.armed ∧ nxt R.armed ≤ _
    unfold nxt; split <;> omega
  · exact ⟨⟨h1.1, by omega⟩, h2, fun i hi => (h3 i hi).le (by omega)⟩
theorem upd_vn {n : Nat} {M : Nat → Mst} {b j : Nat} {st : Mst} (h : ∀ i, i < n → Vn (M i) b) (hs : Vn st b) : ∀ i, i < n → Vn (upd M j st i) b := fun i hi => by
  by_cases e : i = j
  · rw [e, upd_same]; exact hs
  · rw [upd_other _ _ _ _ e]; exact h i hi
theorem akE_ok {n : Nat} {R : Rk} {s : Int} (h : akE n R s = 0) : ∃ i : Nat, s = (i : Int) ∧ i < n ∧ R.off = false ∧ R.armed ≠ 1 := by
  unfold akE at h
  rcases hasK_or n s with h1 | ⟨i, rfl, h2, h3⟩
  · rw [if_neg (by rw [h1]; simp)] at h; omega
  · rw [if_pos h3] at h
    cases ho : R.off
    · rw [ho, if_neg (by simp)] at h
      refine ⟨i, rfl, h2, rfl, fun e => ?_⟩
      rw [if_pos e] at h; omega
    · rw [ho, if_pos rfl] at h; omega
theorem ROk.wr {n : Nat} {R : Rk} {b : Nat} (h : ROk n R b) (s a : Int) (t : ByteArray) : ROk n (wrR n R s a t) (b + 1) := by
  have h1 := h.ak s
  unfold wrR
  split
  · rename_i he
    obtain ⟨i, rfl, hi, _, _⟩ := akE_ok he
    refine ⟨h1.1, h1.2.1, upd_vn (fun i hi => (h.2.2 i hi).le (by omega)) ?_⟩
    rw [Int.toNat_natCast]
    exact (h.2.2 i hi).wr a t
  · exact h1
theorem ROk.fl {n : Nat} {R : Rk} {b : Nat} (h : ROk n R b) (s : Int) : ROk n (flR n R s) (b + 1) := by
  have h1 := h.ak s
  unfold flR
  split
  · rename_i he
    obtain ⟨i, rfl, hi, _, _⟩ := akE_ok he
    refine ⟨h1.1, h1.2.1, upd_vn (fun i hi => (h.2.2 i hi).le (by omega)) ?_⟩
    rw [Int.toNat_natCast]
    exact (h.2.2 i hi).fl.le (by omega)
  · exact h1
theorem ROk.le {n : Nat} {R : Rk} {b c : Nat} (h : ROk n R b) (hc : b ≤ c) : ROk n R c := ⟨⟨h.1.1, by have := h.1.2; omega⟩, h.2.1, fun i hi => (h.2.2 i hi).le hc⟩
theorem ROk.ar {n : Nat} {R : Rk} {b : Nat} (h : ROk n R b) (a : Int) : ROk n (arR R a) b := by
  unfold arR
  split
  · rename_i he
    unfold arOk at he
    rw [Bool.and_eq_true, decide_eq_true_iff, decide_eq_true_iff] at he
    exact ⟨h.1, he, h.2.2⟩
  · exact h
/-- What a call leaves. -/
def RDoes (w : World) (S : Nat → Prop) (w1 : World) (k n : Nat) (R : Rk) (u : Value) (e : Ending) (w' : World) : Prop := e = .returned u ∧ ∃ S', Stp S S' w1 w' ∧ RA w S' w' k n R
section
variable {w w1 w2 : World} {S T T' : Nat → Prop} {k n : Nat} {R : Rk}
theorem RA.lt (h : RA w S w1 k n R) : ∀ x, S x → x < w1.heap.size := RS.lt h
theorem RA.from (h : RA w S w1 k n R) : ∀ x, S x → w.heap.size ≤ x := RS.f h
theorem RA.b (h : RA w S w1 k n R) : Below w.heap.size w w1 := RS.b h
theorem RA.after (h : RA w S w1 k n R) (hb : Below w1.heap.size w1 w2) : RA w S w2 k n R := RS.after h hb
theorem RA.stepR (h : RA w S w1 k n R) (hs : Stp T T' w1 w2) (hT : ∀ k, T k → w.heap.size ≤ k) (hST : ∀ k, S k → ¬ T k) : RA w S w2 k n R ∧ ∀ k, S k → ¬ T' k := RS.step h hs hT hST
theorem RBox.ma {Λ : RLay} {M : Nat → Mst} {off : Bool} {acts armed : Int} (hb : Below w.heap.size w w1) (hf : ∀ x, S x → w.heap.size ≤ x) (h : RBox w1 S k n Λ M off acts armed) {i : Nat} (hi : i < n) : MA w (Λ.T i) w1 (Λ.m i) (M i) :=
  ⟨_, _, _, hb, _, fun x hx => hf x (h.tS i x hi hx).1, h.p i hi⟩
theorem RBox.does {Λ : RLay} {M : Nat → Mst} {off : Bool} {acts armed : Int} (h0 : RA w S w1 k n R) {w3 : World} (hs0 : Stp S S w1 w2) (h : RBox w2 S k n Λ M off acts armed) {i : Nat} (hi : i < n) {T' : Nat → Prop} {st : Mst} (hs : Stp (Λ.T i) T' w2 w3) (hm : MA w T' w3 (Λ.m i) st) :
    ∃ S', Stp S S' w1 w3 ∧ RA w S' w3 k n ⟨upd M i st, off, acts, armed⟩ := by
  obtain ⟨g, bp, cap, hb, F, hf, hp⟩ := hm
  obtain ⟨S', s4, hB4⟩ := h.turn (st := st) hi hs hp
  exact ⟨S', hs0.trans s4, RS.made h0 (hs0.trans s4) hB4⟩
/-- An act, counted or not. -/
theorem rt_act (h : RA w S w1 k n R) (s : Int) (hk : ROk n R 1000000000000) {Λ : RLay} (hB : RBox w1 S k n Λ R.M R.off R.acts R.armed) :
    Calls Tryz.prog 70 #[.pointer (some ⟨k, 0, none⟩), .int .i64 s] w1 fun e w' => e = .returned (.int .i64 (akE n R s)) ∧ Stp S S w1 w' ∧ RBox w' S k n Λ (akR n R s).M (akR n R s).off (akR n R s).acts (akR n R s).armed := by
  obtain ⟨M, off, acts, armed⟩ := R
  unfold akE akR
  rcases hasK_or n s with h1 | ⟨i, rfl, h2, h3⟩
  · rw [if_neg (by rw [h1]; simp), if_neg (by rw [h1]; simp)]
    exact (act_no hB s h1).mono fun e w' ⟨he, hw⟩ => by subst hw; exact ⟨he, Stp.refl _ _, hB⟩
  · rw [if_pos h3]
    cases off with
    | true =>
      rw [if_pos rfl, if_neg (by simp)]
      exact (act_off hB i h2).mono fun e w' ⟨he, hw⟩ => by subst hw; exact ⟨he, Stp.refl _ _, hB⟩
    | false =>
      dsimp only
      rw [if_neg Bool.false_ne_true, if_pos (And.intro h3 rfl)]
      by_cases e1 : armed = 1
      · subst e1
        rw [if_pos rfl]
        exact (act_last hB i h2 ⟨hk.1.1, hk.1.2⟩).mono fun e w' ⟨he, hs, hb⟩ => ⟨he, hs, hb⟩
      · rw [if_neg e1]
        dsimp only
        rw [decide_eq_false e1]
        exact (act_ok hB i h2 ⟨hk.1.1, hk.1.2⟩ ⟨hk.2.1.1, Int.le_trans hk.2.1.2 (by omega)⟩ e1).mono fun e w' ⟨he, hs, hb⟩ => ⟨he, hs, hb⟩
end
section
variable {w w1 : World} {S : Nat → Prop} {k n : Nat} {R : Rk}
set_option maxHeartbeats 1000000 in
theorem rt_write (h : RA w S w1 k n R) (s : Int) (at_ : Int) (t : ByteArray) (hk : ROk n R 1000000000000) :
    Calls Tryz.prog 28 #[.pointer (some ⟨k, 0, none⟩), .int .i64 s, .int .i64 at_, .string t] w1 (RDoes w S w1 k n (wrR n R s at_ t) (.int .i64 (wrRE n R s at_ t))) := by
  obtain ⟨Λ, hB⟩ := h.h
  have ca := rt_act h s hk hB
  obtain ⟨E, hE⟩ : ∃ e, akE n R s = e := ⟨_, rfl⟩
  by_cases e0 : akE n R s = 0
  · obtain ⟨i, rfl, hi, ho, ha⟩ := akE_ok e0
    have hV : VOk (R.M i) := hk.2.2 i hi
    have hM1 : (akR n R (i : Int)).M = R.M := by unfold akR; split <;> rfl
    unfold wrR wrRE
    rw [if_pos e0, if_pos e0, Int.toNat_natCast]
    rw [e0] at ca
    have hk' : (i : Int) < (n : Int) := by omega
    obtain ⟨E1, hE1⟩ : ∃ e, wrE (R.M i) at_ t = e := ⟨_, rfl⟩
    rw [hE1]
    have hEH := Lib.hid hE1
    clear hE hE1
    go_enter Tryz.func28, Tryz.ntmps28
    go_wp2_with (fail)
    refine ca.mono ?_
    rintro e w2 ⟨rfl, s2, hB2⟩
    have c0 := hB2.c0
    have cs := hB2.slot hi
    have hma := RBox.ma (RA.b h |>.trans (s2.below (RA.from h) (RA.b h).size)) (RA.from h) hB2 hi
    rw [hM1] at hma hB2
    have cm := ma_write hma at_ t hV
    have hH := Lib.hid (And.intro h (And.intro s2 hB2))
    rw [hEH.out] at cm
    clear h hB ca hma hB2 s2 hEH e0
    go_wp2_with (fail)
    refine cm.mono ?_
    rintro e w3 ⟨rfl, T', hs3, hm3⟩
    have hfin := Lib.hid (RBox.does hH.out.1 hH.out.2.1 hH.out.2.2 hi hs3 hm3)
    clear cm hs3 hm3 hH
    go_wp2_with (fail)
    go_ret
    exact ⟨rfl, hfin.out⟩
  · unfold wrR wrRE
    rw [if_neg e0, if_neg e0]
    rw [hE] at ca e0 ⊢
    have eb : (E != 0) = true := by rw [bne_iff_ne]; exact e0
    have ec : (E == 0) = false := by rw [beq_eq_false_iff_ne]; exact e0
    clear hE
    go_enter Tryz.func28, Tryz.ntmps28
    go_wp2_with (fail)
    refine ca.mono ?_
    rintro e w2 ⟨rfl, s2, hB2⟩
    have hfin := Lib.hid (And.intro s2 (RS.made h s2 hB2))
    clear h hB ca hB2 s2 hk
    go_wp2_with (fail)
    go_ret
    exact ⟨rfl, S, hfin.out⟩
set_option maxHeartbeats 1000000 in
theorem rt_flush (h : RA w S w1 k n R) (s : Int) (hk : ROk n R 1000000000000) :
    Calls Tryz.prog 29 #[.pointer (some ⟨k, 0, none⟩), .int .i64 s] w1 (RDoes w S w1 k n (flR n R s) (.int .i64 (flRE n R s))) := by
  obtain ⟨Λ, hB⟩ := h.h
  have ca := rt_act h s hk hB
  obtain ⟨E, hE⟩ : ∃ e, akE n R s = e := ⟨_, rfl⟩
  by_cases e0 : akE n R s = 0
  · obtain ⟨i, rfl, hi, ho, ha⟩ := akE_ok e0
    have hV : VOk (R.M i) := hk.2.2 i hi
    have hM1 : (akR n R (i : Int)).M = R.M := by unfold akR; split <;> rfl
    unfold flR flRE
    rw [if_pos e0, if_pos e0, Int.toNat_natCast]
    rw [e0] at ca
    have hk' : (i : Int) < (n : Int) := by omega
    obtain ⟨E1, hE1⟩ : ∃ e, flE (R.M i) = e := ⟨_, rfl⟩
    rw [hE1]
    have hEH := Lib.hid hE1
    clear hE hE1
    go_enter Tryz.func29, Tryz.ntmps29
    go_wp2_with (fail)
    refine ca.mono ?_
    rintro e w2 ⟨rfl, s2, hB2⟩
    have c0 := hB2.c0
    have cs := hB2.slot hi
    have hma := RBox.ma (RA.b h |>.trans (s2.below (RA.from h) (RA.b h).size)) (RA.from h) hB2 hi
    rw [hM1] at hma hB2
    have cm := ma_flush hma hV
    have hH := Lib.hid (And.intro h (And.intro s2 hB2))
    rw [hEH.out] at cm
    clear h hB ca hma hB2 s2 hEH e0
    go_wp2_with (fail)
    refine cm.mono ?_
    rintro e w3 ⟨rfl, T', hs3, hm3⟩
    have hfin := Lib.hid (RBox.does hH.out.1 hH.out.2.1 hH.out.2.2 hi hs3 hm3)
    clear cm hs3 hm3 hH
    go_wp2_with (fail)
    go_ret
    exact ⟨rfl, hfin.out⟩
  · unfold flR flRE
    rw [if_neg e0, if_neg e0]
    rw [hE] at ca e0 ⊢
    have eb : (E != 0) = true := by rw [bne_iff_ne]; exact e0
    have ec : (E == 0) = false := by rw [beq_eq_false_iff_ne]; exact e0
    clear hE
    go_enter Tryz.func29, Tryz.ntmps29
    go_wp2_with (fail)
    refine ca.mono ?_
    rintro e w2 ⟨rfl, s2, hB2⟩
    have hfin := Lib.hid (And.intro s2 (RS.made h s2 hB2))
    clear h hB ca hB2 s2 hk
    go_wp2_with (fail)
    go_ret
    exact ⟨rfl, S, hfin.out⟩
theorem rhE_ok {n : Nat} {R : Rk} {s : Int} (h : rhE n R s = 0) : ∃ i : Nat, s = (i : Int) ∧ i < n ∧ R.off = false := by
  unfold rhE at h
  rcases hasK_or n s with h1 | ⟨i, rfl, h2, h3⟩
  · rw [if_neg (by rw [h1]; simp)] at h; omega
  · rw [if_pos h3] at h
    cases ho : R.off
    · exact ⟨i, rfl, h2, rfl⟩
    · rw [ho, if_pos rfl] at h; omega
theorem rt_reach {Λ : RLay} (hB : RBox w1 S k n Λ R.M R.off R.acts R.armed) (s : Int) :
    Calls Tryz.prog 104 #[.pointer (some ⟨k, 0, none⟩), .int .i64 s] w1 fun e w' => e = .returned (.int .i64 (rhE n R s)) ∧ w1 = w' := by
  obtain ⟨M, off, acts, armed⟩ := R
  unfold rhE
  rcases hasK_or n s with h1 | ⟨i, rfl, h2, h3⟩
  · rw [if_neg (by rw [h1]; simp)]; exact reach_no hB s h1
  · rw [if_pos h3]
    cases off with
    | true => exact reach_off hB i h2
    | false => exact reach_on hB i h2
theorem rt_read (h : RA w S w1 k n R) (s at_ : Int) (hk : ROk n R 1000000000000) :
    Calls Tryz.prog 124 #[.pointer (some ⟨k, 0, none⟩), .int .i64 s, .int .i64 at_] w1 fun e w' => e = .returned (.tuple #[.string (rdRS n R s at_), .int .i64 (rdRE n R s at_)]) ∧ Below w1.heap.size w1 w' := by
  obtain ⟨Λ, hB⟩ := h.h
  have cr := rt_reach (R := R) hB s
  unfold rdRS rdRE
  by_cases e0 : rhE n R s = 0
  · obtain ⟨i, rfl, hi, ho⟩ := rhE_ok e0
    rw [if_pos e0, if_pos e0, Int.toNat_natCast]
    rw [e0] at cr
    have hk' : (i : Int) < (n : Int) := by omega
    have c0 := hB.c0
    have cs := hB.slot hi
    have cm := ma_read (RBox.ma (RA.b h) (RA.from h) hB hi) at_ (hk.2.2 i hi)
    generalize rdS (R.M i) at_ = x at *
    generalize rdE (R.M i) at_ = y at *
    clear h hB hk e0
    go_enter Tryz.func124, Tryz.ntmps124
    go_wp2_with (fail)
    refine cr.mono ?_
    rintro e w' ⟨rfl, rfl⟩
    go_wp2_with (fail)
    refine cm.mono ?_
    rintro e w3 ⟨rfl, b3⟩
    go_wp2_with (fail)
    go_ret2
    exact ⟨rfl, b3⟩
  · rw [if_neg e0, if_neg e0]
    obtain ⟨E, hE⟩ : ∃ e, rhE n R s = e := ⟨_, rfl⟩
    rw [hE] at cr e0 ⊢
    have eb : (E != 0) = true := by rw [bne_iff_ne]; exact e0
    have ec : (E == 0) = false := by rw [beq_eq_false_iff_ne]; exact e0
    clear h hB hk hE
    go_enter Tryz.func124, Tryz.ntmps124
    go_wp2_with (fail)
    refine cr.mono ?_
    rintro e w' ⟨rfl, rfl⟩
    go_wp2_with (fail)
    go_ret2
    exact ⟨rfl, Below.refl _ _⟩
theorem rt_arm (h : RA w S w1 k n R) (a : Int) : Calls Tryz.prog 30 #[.pointer (some ⟨k, 0, none⟩), .int .i64 a] w1 (RDoes w S w1 k n (arR R a) (.int .i64 (arE a))) := by
  unfold arR arE
  by_cases e : arOk a = true
  · rw [if_pos e, if_pos e]
    unfold arOk at e
    rw [Bool.and_eq_true, decide_eq_true_iff, decide_eq_true_iff] at e
    exact (rs_arm h a e).mono fun _ w' ⟨S', he, hs, hr⟩ => ⟨he, S', hs, hr⟩
  · rw [if_neg e, if_neg e]
    unfold arOk at e
    by_cases h0 : a < 0
    · have t1 : decide (a < 0) = true := decide_eq_true h0
      have hH := Lib.hid h
      clear h e h0
      go_enter Tryz.func30, Tryz.ntmps30
      go_wp2_with (fail)
      go_ret
      exact ⟨rfl, S, Stp.refl _ _, hH.out⟩
    · have t1 : decide (a < 0) = false := decide_eq_false h0
      have t2 : decide ((1099511627776 : Int) < a) = true := by
        refine decide_eq_true ?_
        rw [decide_eq_true (by omega : 0 ≤ a), Bool.true_and, decide_eq_true_iff] at e
        omega
      have hH := Lib.hid h
      clear h e h0
      go_enter Tryz.func30, Tryz.ntmps30
      go_wp2_with (fail)
      go_ret
      exact ⟨rfl, S, Stp.refl _ _, hH.out⟩
theorem rt_restart (h : RA w S w1 k n R) (vv : Value) (l : List (Value × List Int)) (hc : ChR w1 vv l) (ha : ChA vv l S) (hln : l.length ≤ 140737488355328) (hk : ROk n R 1000000000000) :
    Calls Tryz.prog 31 #[.pointer (some ⟨k, 0, none⟩), vv] w1 (RDoes w S w1 k n (reR R l) (.tuple #[])) :=
  (rs_restart h vv l hc ha hln (fun i hi => hk.2.2 i hi)).mono fun e w' ⟨he, hs, hr⟩ => ⟨he, S, hs, hr⟩
theorem rt_fail (h : RA w S w1 k n R) (s : Int) :
    Calls Tryz.prog 15 #[.pointer (some ⟨k, 0, none⟩), .int .i64 s] w1 (RDoes w S w1 k n (upR n R s faM) (.bool (hasK n s))) := by
  unfold upR
  rcases hasK_or n s with h1 | ⟨i, rfl, h2, h3⟩
  · rw [if_neg (by rw [h1]; simp)]
    obtain ⟨Λ, hB⟩ := h.h
    have ch := hask_any hB s
    rw [h1] at ch ⊢
    have hH := Lib.hid h
    clear h hB h1
    go_enter Tryz.func15, Tryz.ntmps15
    go_wp2_with (fail)
    refine ch.mono ?_
    rintro e w' ⟨rfl, rfl⟩
    go_wp2_with (fail)
    refine ch.mono ?_
    rintro e w' ⟨rfl, rfl⟩
    go_wp2_with (fail)
    go_ret
    exact ⟨rfl, S, Stp.refl _ _, hH.out⟩
  · rw [if_pos h3, h3, Int.toNat_natCast]
    exact (rs_fail h i h2).mono fun e w' ⟨S', he, hs, hr⟩ => ⟨he, S', hs, hr⟩
theorem rt_blank (h : RA w S w1 k n R) (s : Int) :
    Calls Tryz.prog 16 #[.pointer (some ⟨k, 0, none⟩), .int .i64 s] w1 (RDoes w S w1 k n (upR n R s blM) (.bool (hasK n s))) := by
  unfold upR
  rcases hasK_or n s with h1 | ⟨i, rfl, h2, h3⟩
  · rw [if_neg (by rw [h1]; simp)]
    obtain ⟨Λ, hB⟩ := h.h
    have ch := hask_any hB s
    rw [h1] at ch ⊢
    have hH := Lib.hid h
    clear h hB h1
    go_enter Tryz.func16, Tryz.ntmps16
    go_wp2_with (fail)
    refine ch.mono ?_
    rintro e w' ⟨rfl, rfl⟩
    go_wp2_with (fail)
    refine ch.mono ?_
    rintro e w' ⟨rfl, rfl⟩
    go_wp2_with (fail)
    go_ret
    exact ⟨rfl, S, Stp.refl _ _, hH.out⟩
  · rw [if_pos h3, h3, Int.toNat_natCast]
    exact (rs_blank h i h2).mono fun e w' ⟨S', he, hs, hr⟩ => ⟨he, S', hs, hr⟩
theorem rt_rot (h : RA w S w1 k n R) (s a j b : Int) (haI : In64 a) :
    Calls Tryz.prog 17 #[.pointer (some ⟨k, 0, none⟩), .int .i64 s, .int .i64 a, .int .i64 j, .int .i64 b] w1 (RDoes w S w1 k n (upR n R s fun M => roM M a j b) (.bool (roRB n R s a j b))) := by
  unfold upR roRB
  rcases hasK_or n s with h1 | ⟨i, rfl, h2, h3⟩
  · rw [if_neg (by rw [h1]; simp), h1, Bool.false_and]
    obtain ⟨Λ, hB⟩ := h.h
    have ch := hask_any hB s
    rw [h1] at ch
    have hH := Lib.hid h
    clear h hB h1
    go_enter Tryz.func17, Tryz.ntmps17
    go_wp2_with (fail)
    refine ch.mono ?_
    rintro e w' ⟨rfl, rfl⟩
    go_wp2_with (fail)
    go_ret
    exact ⟨rfl, S, Stp.refl _ _, hH.out⟩
  · rw [if_pos h3, h3, Int.toNat_natCast, Bool.true_and]
    unfold roM
    dsimp only
    cases hr : rotB (R.M i).fd (R.M i).L (R.M i).V a j b with
    | false =>
      rw [if_neg Bool.false_ne_true, upd_self]
      exact (rs_rotn h i h2 a j b haI hr).mono fun e w' ⟨he, hw⟩ => by subst hw; exact ⟨he, S, Stp.refl _ _, h⟩
    | true =>
      rw [if_pos rfl]
      obtain ⟨h0, a', j', b', rfl, rfl, rfl, h5, h6, h7⟩ := rotB_nat hr
      rw [Int.toNat_natCast, Int.toNat_natCast, Int.toNat_natCast, List.getD_eq_getElem?_getD, List.getElem?_eq_getElem h5]
      exact (rs_rot h i h2 a' j' b' hr h5 h6 h7).mono fun e w' ⟨S', he, hs, hr⟩ => ⟨he, S', hs, hr⟩
theorem rt_image (h : RA w S w1 k n R) (s : Int) : Calls Tryz.prog 23 #[.pointer (some ⟨k, 0, none⟩), .int .i64 s] w1 (GivesQ w1 (imR n R s)) := by
  unfold imR
  rcases hasK_or n s with h1 | ⟨i, rfl, h2, h3⟩
  · rw [if_neg (by rw [h1]; simp)]
    obtain ⟨Λ, hB⟩ := h.h
    have ch := hask_any hB s
    rw [h1] at ch
    clear h hB h1
    go_enter Tryz.func23, Tryz.ntmps23
    go_wp2_with (fail)
    refine ch.mono ?_
    rintro e w' ⟨rfl, rfl⟩
    go_wp2_with (fail)
    go_ret
    exact ⟨_, rfl, Below.refl _ _, Own.nil _ _ _⟩
  · rw [if_pos h3, Int.toNat_natCast]
    unfold imL
    obtain ⟨st, hst⟩ : ∃ st, R.M i = st := ⟨_, rfl⟩
    obtain ⟨fd, L, V⟩ := st
    rw [hst]
    cases fd with
    | true => exact (rs_imaged h i h2 hst).mono fun e w' ⟨he, hw⟩ => by subst hw; exact ⟨_, he, Below.refl _ _, Own.nil _ _ _⟩
    | false => exact (rs_image h i h2 hst).mono fun e w' ⟨x, he, hb, ho⟩ => ⟨_, he, hb, ho⟩
theorem rt_pending (h : RA w S w1 k n R) (s : Int) : Calls Tryz.prog 25 #[.pointer (some ⟨k, 0, none⟩), .int .i64 s] w1 fun e w' => e = .returned (.int .i64 (peR n R s)) ∧ Below w1.heap.size w1 w' := by
  unfold peR
  rcases hasK_or n s with h1 | ⟨i, rfl, h2, h3⟩
  · rw [if_neg (by rw [h1]; simp)]
    obtain ⟨Λ, hB⟩ := h.h
    have ch := hask_any hB s
    rw [h1] at ch
    clear h hB h1
    go_enter Tryz.func25, Tryz.ntmps25
    go_wp2_with (fail)
    refine ch.mono ?_
    rintro e w' ⟨rfl, rfl⟩
    go_wp2_with (fail)
    go_ret
    exact ⟨rfl, Below.refl _ _⟩
  · rw [if_pos h3, Int.toNat_natCast]
    exact rs_pend h i h2
end
end Go.Proofs.YtfadglcpapiklaaGreatDoor
end
section
namespace Go.Proofs.YtfadglcpapiklaaGreatDoor
open Go.RowKit
set_option linter.unusedVariables false
set_option linter.unusedSimpArgs false
set_option maxRecDepth 100000

def QB (w : World) (T : Nat → Prop) (m : Nat) (M : Mst) : Prop := ∃ q cap F, QBox w T m q cap M.fd M.L M.V F
theorem QB.heap {w w' : World} {T : Nat → Prop} {m : Nat} {M : Mst} (h : QB w T m M) (e : ∀ k, T k → w'.heap[k]? = w.heap[k]?) (hs : w.heap.size ≤ w'.heap.size) : QB w' T m M := by
  obtain ⟨q, cap, F, h⟩ := h; exact ⟨q, cap, F, h.heap e hs⟩
theorem QB.lt {w : World} {T : Nat → Prop} {m : Nat} {M : Mst} (h : QB w T m M) : ∀ k, T k → k < w.heap.size := by
  obtain ⟨q, cap, F, h⟩ := h; exact h.lt
/-- A rack of the document in memory. -/
structure KBox (w : World) (S : Nat → Prop) (k n q cap : Nat) (T : Nat → Nat → Prop) (mm : Nat → Nat) (M : Nat → Mst) (sec acts ar : Int) (off : Bool) : Prop where
  b : w.heap[k]? = some (.cells #[.slice (some ⟨q, 0, none⟩) n cap, .int .i64 sec, .int .i64 acts, .int .i64 ar, .bool off] 116 (0, 0))
  l : Own w 0 117 (.slice (some ⟨q, 0, none⟩) n cap) (rowV n fun i => .pointer (some ⟨mm i, 0, none⟩))
  p : ∀ i, i < n → QB w (T i) (mm i) (M i)
  dj : ∀ i j x, i < n → j < n → i ≠ j → T i x → ¬ T j x
  tS : ∀ i x, i < n → T i x → S x ∧ x ≠ k ∧ x ≠ q
  sk : S k
  sq : S q
  kq : k ≠ q
  lt : ∀ x, S x → x < w.heap.size
  n1 : 1 ≤ n
  n7 : n ≤ 7
section
variable {w w' : World} {S : Nat → Prop} {k n q cap : Nat} {T : Nat → Nat → Prop} {mm : Nat → Nat} {M : Nat → Mst} {sec acts ar : Int} {off : Bool}
theorem KBox.heap (h : KBox w S k n q cap T mm M sec acts ar off) (e : ∀ x, S x → w'.heap[x]? = w.heap[x]?) (hs : w.heap.size ≤ w'.heap.size) : KBox w' S k n q cap T mm M sec acts ar off :=
  ⟨(e k h.sk).trans h.b, h.l.sameBlock (e _ h.sq), fun i hi => (h.p i hi).heap (fun x hx => e x (h.tS i x hi hx).1) hs, h.dj, h.tS, h.sk, h.sq, h.kq, fun x hx => Nat.lt_of_lt_of_le (h.lt x hx) hs, h.n1, h.n7⟩
theorem KBox.below (h : KBox w S k n q cap T mm M sec acts ar off) (hb : Below w.heap.size w w') : KBox w' S k n q cap T mm M sec acts ar off := h.heap (fun x hx => hb.block x (h.lt x hx)) hb.size
theorem KBox.c0 (h : KBox w S k n q cap T mm M sec acts ar off) : w.cell? ⟨k, 0, none⟩ = some (.slice (some ⟨q, 0, none⟩) n cap) := by simp [World.cell?, h.b]
theorem KBox.c1 (h : KBox w S k n q cap T mm M sec acts ar off) : w.cell? ⟨k, 1, none⟩ = some (.int .i64 sec) := by simp [World.cell?, h.b]
theorem KBox.c2 (h : KBox w S k n q cap T mm M sec acts ar off) : w.cell? ⟨k, 2, none⟩ = some (.int .i64 acts) := by simp [World.cell?, h.b]
theorem KBox.c3 (h : KBox w S k n q cap T mm M sec acts ar off) : w.cell? ⟨k, 3, none⟩ = some (.int .i64 ar) := by simp [World.cell?, h.b]
theorem KBox.c4 (h : KBox w S k n q cap T mm M sec acts ar off) : w.cell? ⟨k, 4, none⟩ = some (.bool off) := by simp [World.cell?, h.b]
theorem KBox.f (h : KBox w S k n q cap T mm M sec acts ar off) (o : Nat) : w.frozen? ⟨k, o, none⟩ = false := by simp [World.frozen?, h.b]
theorem KBox.slot (h : KBox w S k n q cap T mm M sec acts ar off) {i : Nat} (hi : i < n) : w.cell? ⟨q, i, none⟩ = some (.pointer (some ⟨mm i, 0, none⟩)) := by
  rw [h.l.cell (i := i) (by rw [rowV_len]; exact hi), rowV_get _ _ _ hi]
theorem KBox.len (h : KBox w S k n q cap T mm M sec acts ar off) (W : World) : (Builtin.len_ #[114] 3 #[.slice (some ⟨q, 0, none⟩) n cap]).run Tryz.prog W = .ok (.int .i64 (n : Int)) W := by
  have := h.l.reads.len_run (P := Tryz.prog) Tryz.underlying114 3 W
  rw [rowV_len] at this; exact this
theorem KBox.congr (h : KBox w S k n q cap T mm M sec acts ar off) {M' : Nat → Mst} (e : ∀ i, i < n → M' i = M i) : KBox w S k n q cap T mm M' sec acts ar off :=
  ⟨h.b, h.l, fun i hi => by rw [e i hi]; exact h.p i hi, h.dj, h.tS, h.sk, h.sq, h.kq, h.lt, h.n1, h.n7⟩
/-- A cell of the rack's own is set. -/
theorem KBox.setK (h : KBox w S k n q cap T mm M sec acts ar off) (o : Nat) (u : Value) (acts' ar' : Int) (off' : Bool)
    (e : (#[.slice (some ⟨q, 0, none⟩) n cap, .int .i64 sec, .int .i64 acts, .int .i64 ar, .bool off] : Array Value).setIfInBounds o u = #[.slice (some ⟨q, 0, none⟩) n cap, .int .i64 sec, .int .i64 acts', .int .i64 ar', .bool off']) :
    KBox (w.setCell ⟨k, o, none⟩ u) S k n q cap T mm M sec acts' ar' off' ∧ Stp S S w (w.setCell ⟨k, o, none⟩ u) := by
  have k5 : ∀ x, x ≠ k → (w.setCell ⟨k, o, none⟩ u).heap[x]? = w.heap[x]? := fun x hx => Below.heap_setCell _ _ _ _ hx
  have k4 : (w.setCell ⟨k, o, none⟩ u).heap.size = w.heap.size := by simp
  refine ⟨⟨?_, h.l.sameBlock (k5 _ (Ne.symm h.kq)), fun i hi => (h.p i hi).heap (fun x hx => k5 x (h.tS i x hi hx).2.1) (by omega), h.dj, h.tS, h.sk, h.sq, h.kq, fun x hx => by rw [k4]; exact h.lt x hx, h.n1, h.n7⟩, ⟨⟨rfl, rfl, rfl, by omega, fun x hx => absurd hx (Nat.not_lt_zero _)⟩, fun x _ hn => k5 x (fun e => hn (e ▸ h.sk)), fun x hx => .inl hx⟩⟩
  simp [World.setCell, Array.getElem?_modify, h.b, e]
/-- A step of member i. -/
theorem KBox.turn (h : KBox w S k n q cap T mm M sec acts ar off) {i : Nat} (hi : i < n) {T' : Nat → Prop} {st : Mst} (hs : Stp (T i) T' w w') (hp : QB w' T' (mm i) st) :
    ∃ S', Stp S S' w w' ∧ KBox w' S' k n q cap (upd T i T') mm (upd M i st) sec acts ar off := by
  have old : ∀ x, x < w.heap.size → ¬ T i x → w'.heap[x]? = w.heap[x]? := hs.oth
  have kT : ¬ T i k := fun z => (h.tS i k hi z).2.1 rfl
  have qT : ¬ T i q := fun z => (h.tS i _ hi z).2.2 rfl
  have kl := h.lt k h.sk
  have ql := h.lt _ h.sq
  have hsz := hs.b0.size
  refine ⟨fun x => S x ∨ (w.heap.size ≤ x ∧ T' x), ⟨hs.b0, fun x hx hn => old x hx (fun z => hn (h.tS i x hi z).1), fun x hx => hx.imp id And.left⟩,
    ⟨(old k kl kT).trans h.b, h.l.sameBlock (old _ ql qT), fun j hj => ?_, fun a b x ha hb hne hx => ?_, fun j x hj hx => ?_, .inl h.sk, .inl h.sq, h.kq, fun x hx => ?_, h.n1, h.n7⟩⟩
  · by_cases e : j = i
    · subst e
      simp only [upd_same]
      exact hp
    · simp only [upd_other _ _ _ _ e]
      exact (h.p j hj).heap (fun x hx => old x ((h.p j hj).lt x hx) (h.dj j i x hj hi e hx)) hsz
  · have tl : ∀ j, j < n → j ≠ i → ∀ x, T j x → ¬ T' x := fun j hj hne x hx hx' => by
      rcases hs.grow x hx' with z | z
      · exact h.dj j i x hj hi hne hx z
      · have := h.lt x (h.tS j x hj hx).1; omega
    by_cases e : a = i
    · subst e
      rw [upd_same] at hx
      rw [upd_other _ _ _ _ (Ne.symm hne)]
      exact fun z => tl b hb (Ne.symm hne) x z hx
    · rw [upd_other _ _ _ _ e] at hx
      by_cases e2 : b = i
      · subst e2; rw [upd_same]; exact tl a ha e x hx
      · rw [upd_other _ _ _ _ e2]; exact h.dj a b x ha hb hne hx
  · by_cases e : j = i
    · subst e
      rw [upd_same] at hx
      rcases hs.grow x hx with z | z
      · exact ⟨.inl (h.tS j x hj z).1, (h.tS j x hj z).2⟩
      · exact ⟨.inr ⟨z, hx⟩, by omega, by omega⟩
    · rw [upd_other _ _ _ _ e] at hx
      exact ⟨.inl (h.tS j x hj hx).1, (h.tS j x hj hx).2⟩
  · rcases hx with z | z
    · exact Nat.lt_of_lt_of_le (h.lt x z) hsz
    · exact hp.lt x z.2
end
/-- How the two ways to count are one. -/
def ArRel (armed ar acts : Int) : Prop := (armed = 0 ∧ 0 ≤ ar ∧ ar ≤ acts) ∨ (0 < armed ∧ ar = acts + armed)
/-- A rack of the document, made behind w. -/
structure KA (w : World) (S : Nat → Prop) (w' : World) (k n : Nat) (R : Rk) : Prop where
  b : Below w.heap.size w w'
  f : ∀ x, S x → w.heap.size ≤ x
  h : ∃ q cap T mm sec ar, KBox w' S k n q cap T mm R.M sec R.acts ar R.off ∧ ArRel R.armed ar R.acts ∧ ∀ i, i < n → ((R.M i).L.length : Int) = sec
section
variable {w w1 w2 : World} {S S' T T' : Nat → Prop} {k n : Nat} {R : Rk}
theorem KA.lt (h : KA w S w1 k n R) : ∀ x, S x → x < w1.heap.size := by obtain ⟨q, cap, T, mm, sec, ar, h1, _⟩ := h.h; exact h1.lt
theorem KA.after (h : KA w S w1 k n R) (hb : Below w1.heap.size w1 w2) : KA w S w2 k n R := by
  obtain ⟨q, cap, T, mm, sec, ar, h1, h2, h3⟩ := h.h
  exact ⟨h.b.trans (hb.mono h.b.size), h.f, q, cap, T, mm, sec, ar, h1.below hb, h2, h3⟩
theorem KA.stepR (h : KA w S w1 k n R) (hs : Stp T T' w1 w2) (hT : ∀ k, T k → w.heap.size ≤ k) (hST : ∀ k, S k → ¬ T k) : KA w S w2 k n R ∧ ∀ k, S k → ¬ T' k := by
  obtain ⟨q, cap, Tm, mm, sec, ar, h1, h2, h3⟩ := h.h
  refine ⟨⟨h.b.trans (hs.below hT h.b.size), h.f, q, cap, Tm, mm, sec, ar, h1.heap (fun x hx => hs.oth x (h1.lt x hx) (hST x hx)) hs.b0.size, h2, h3⟩, fun x hx hx2 => ?_⟩
  rcases hs.grow x hx2 with z | z
  · exact hST x hx z
  · have := h1.lt x hx; omega
theorem KA.made (h : KA w S w1 k n R) (hs : Stp S S' w1 w2) {R' : Rk} {q cap : Nat} {Tm : Nat → Nat → Prop} {mm : Nat → Nat} {sec ar : Int} (hp : KBox w2 S' k n q cap Tm mm R'.M sec R'.acts ar R'.off) (hr : ArRel R'.armed ar R'.acts) (hl : ∀ i, i < n → ((R'.M i).L.length : Int) = sec) : KA w S' w2 k n R' :=
  ⟨h.b.trans (hs.below h.f h.b.size), fun x hx => by
    rcases hs.grow x hx with z | z
    · exact h.f x z
    · exact Nat.le_trans h.b.size z, q, cap, Tm, mm, sec, ar, hp, hr, hl⟩
theorem upd_len {M : Nat → Mst} {st : Mst} {sec : Int} {i : Nat} (h : ∀ j, j < n → ((M j).L.length : Int) = sec) (hs : (st.L.length : Int) = sec) : ∀ j, j < n → ((upd M i st j).L.length : Int) = sec := fun j hj => by
  by_cases e : j = i
  · rw [e, upd_same]; exact hs
  · rw [upd_other _ _ _ _ e]; exact h j hj
theorem KBox.does {R' : Rk} (h0 : KA w S w1 k n R) {w3 : World} (hs0 : Stp S S w1 w2) {q cap : Nat} {Tm : Nat → Nat → Prop} {mm : Nat → Nat} {sec ar : Int} (h : KBox w2 S k n q cap Tm mm R'.M sec R'.acts ar R'.off) (hr : ArRel R'.armed ar R'.acts) (hl : ∀ i, i < n → ((R'.M i).L.length : Int) = sec)
    {i : Nat} (hi : i < n) {T' : Nat → Prop} {st : Mst} (hst : st.L.length = (R'.M i).L.length) (hs : Stp (Tm i) T' w2 w3) (hm : QA w T' w3 (mm i) st) :
    ∃ S', Stp S S' w1 w3 ∧ KA w S' w3 k n { R' with M := upd R'.M i st } := by
  obtain ⟨q', cap', F, hf, hp⟩ := QS.h hm
  obtain ⟨S', s4, hB4⟩ := h.turn (st := st) hi hs ⟨q', cap', F, hp⟩
  exact ⟨S', hs0.trans s4, h0.made (R' := { R' with M := upd R'.M i st }) (hs0.trans s4) hB4 hr (upd_len hl (by rw [hst]; exact hl i hi))⟩
end
section
variable {w w1 : World} {S : Nat → Prop} {k n q cap : Nat} {T : Nat → Nat → Prop} {mm : Nat → Nat} {sec ar : Int} {R : Rk}
end
end Go.Proofs.YtfadglcpapiklaaGreatDoor
end
section
namespace Go.Proofs.YtfadglcpapiklaaGreatDoor
open Go.RowKit
set_option linter.unusedVariables false
set_option linter.unusedSimpArgs false
set_option maxRecDepth 100000

theorem crashM_len (M : Mst) (ch : List Int) : (crashM M ch).L.length = M.L.length := crL_len _ _ _ _ _
section
variable {w w1 : World} {S : Nat → Prop} {k n : Nat} {R : Rk}
end
theorem qptr_is : ∃ i, Tryz.prog.info? 117 = some i ∧ i.zero = some (.pointer none) ∧ i.size = 1 ∧ i.bytes = 8 := (cont_gen (P := Tryz.prog) (t := 117) (c := .pointer none) (n := 1) (k := 8) (by kernel_rfl)).2
/-- A rack of the document that is being made. -/
structure NK (w : World) (k j : Nat) (sv : Value) (T : Nat → Nat → Prop) (mm : Nat → Nat) (s : Nat) : Prop where
  b : w.heap[k]? = some (.cells #[sv, .int .i64 (s : Int), .int .i64 0, .int .i64 0, .bool false] 116 (0, 0))
  l : Own w (k + 1) 117 sv (rowV j fun i => .pointer (some ⟨mm i, 0, none⟩))
  p : ∀ i, i < j → QB w (T i) (mm i) ⟨false, List.replicate s zero128, noV⟩
  dj : ∀ a c x, a < j → c < j → a ≠ c → T a x → ¬ T c x
  tk : ∀ i x, i < j → T i x → k < x ∧ sv.ownBlock ≠ some x
  kl : k < w.heap.size
section
variable {w w2 : World} {k j : Nat} {sv : Value} {T : Nat → Nat → Prop} {mm : Nat → Nat} {s : Nat}
theorem NK.c0 (h : NK w k j sv T mm s) : w.cell? ⟨k, 0, none⟩ = some sv := by simp [World.cell?, h.b]
theorem NK.after (h : NK w k j sv T mm s) (hb : Below w.heap.size w w2) : NK w2 k j sv T mm s :=
  ⟨(hb.block k h.kl).trans h.b, h.l.after hb, fun i hi => (h.p i hi).heap (fun x hx => hb.block x ((h.p i hi).lt x hx)) hb.size, h.dj, h.tk, Nat.lt_of_lt_of_le h.kl hb.size⟩
theorem NK.push (h : NK w k j sv T mm s) (hb : Below w.heap.size w w2) (hj : j ≤ 7) {S' : Nat → Prop} {m : Nat} (hP : QB w2 S' m ⟨false, List.replicate s zero128, noV⟩) (hS : ∀ x, S' x → w.heap.size ≤ x) :
    ∃ v' w3, (∃ a n c, v' = .slice a n c) ∧ (Builtin.append_ #[114, 114] 114 #[sv, .slice (some ⟨w2.heap.size, 0, none⟩) 1 1]).run Tryz.prog (w2.alloc (.cells #[.pointer (some ⟨m, 0, none⟩)] 117)) = .ok v' w3 ∧
      w3.cell? ⟨k, 0, none⟩ = some sv ∧ w3.frozen? ⟨k, 0, none⟩ = false ∧ NK (w3.setCell ⟨k, 0, none⟩ v') k (j + 1) v' (upd T j S') (upd mm j m) s ∧ Below k w2 (w3.setCell ⟨k, 0, none⟩ v') := by
  obtain ⟨si, s1, s2, s3, s4⟩ := qptr_is
  have h2 := h.after hb
  obtain ⟨v', w3, hap, ho, hb3, hk, hv⟩ := Own.pushA (P := Tryz.prog) (T := 114) Tryz.underlying114 s1 s2 s3 s4 rfl h2.l (.pointer (some ⟨m, 0, none⟩)) rfl h2.kl (by rw [rowV_len]; omega) (by rw [rowV_len]; omega)
  obtain ⟨gv, cv, ev, _, _⟩ := ho.form (by simp)
  have kb : w3.heap[k]? = some (.cells #[sv, .int .i64 (s : Int), .int .i64 0, .int .i64 0, .bool false] 116 (0, 0)) := (hb3.block k (by omega)).trans h2.b
  have k5 : ∀ x, x ≠ k → (w3.setCell ⟨k, 0, none⟩ v').heap[x]? = w3.heap[x]? := fun x hx => Below.heap_setCell _ _ _ _ hx
  have vnew : ∀ x, v'.ownBlock = some x → sv.ownBlock = some x ∨ x = w2.heap.size + 1 := fun x e => by
    rcases hv with z | z
    · exact .inl (by rw [← z]; exact e)
    · rw [z] at e; injection e with e; exact .inr e.symm
  have svn : ∀ x, S' x → sv.ownBlock ≠ some x := fun x hx e => by have := (h.l.o.lt x e).2; have := hS x hx; omega
  have hkw : k < w.heap.size := h.kl
  refine ⟨v', w3, ⟨_, _, _, ev⟩, hap, by simp [World.cell?, kb], by simp [World.frozen?, kb], ⟨?_, ?_, fun i hi => ?_, fun a c x ha hc hne hx => ?_, fun i x hi hx => ?_, ?_⟩, (hb3.mono (Nat.le_succ k)).setCell (p := ⟨k, 0, none⟩) (Nat.le_refl k) v'⟩
  · simp [World.setCell, Array.getElem?_modify, kb]
  · have e : rowV j (fun i => Value.pointer (some ⟨mm i, 0, none⟩)) ++ [.pointer (some ⟨m, 0, none⟩)] = rowV (j + 1) fun i => .pointer (some ⟨upd mm j m i, 0, none⟩) := by
      unfold rowV
      rw [List.range_succ, List.map_append]
      congr 1
      · apply List.map_congr_left
        intro i hi
        have := List.mem_range.1 hi
        rw [upd_other _ _ _ _ (by omega)]
      · simp [upd]
    rw [e] at ho
    exact ho.sameAt fun x hx => k5 x (by have := (ho.o.lt x hx).1; omega)
  · by_cases e : i = j
    · subst e
      simp only [upd_same]
      exact hP.heap (fun x hx => (k5 x (by have := hS x hx; omega)).trans (hk x (hP.lt x hx) (svn x hx))) (by have := hb3.size; simp; omega)
    · simp only [upd_other _ _ _ _ e]
      have hp2 := h2.p i (by omega)
      exact hp2.heap (fun x hx => (k5 x (by have := (h.tk i x (by omega) hx).1; omega)).trans (hk x (hp2.lt x hx) (h.tk i x (by omega) hx).2)) (by have := hb3.size; simp; omega)
  · have told : ∀ i x, i < j → T i x → x < w.heap.size := fun i x hi hx => (h.p i hi).lt x hx
    by_cases e : a = j
    · subst e
      simp only [upd_same] at hx
      simp only [upd_other _ _ _ _ (Ne.symm hne)]
      exact fun z => by have := told c x (by omega) z; have := hS x hx; omega
    · simp only [upd_other _ _ _ _ e] at hx
      by_cases e2 : c = j
      · subst e2
        simp only [upd_same]
        exact fun z => by have := told a x (by omega) hx; have := hS x z; omega
      · simp only [upd_other _ _ _ _ e2]
        exact h.dj a c x (by omega) (by omega) hne hx
  · by_cases e : i = j
    · subst e
      simp only [upd_same] at hx
      refine ⟨by have := hS x hx; omega, fun z => ?_⟩
      rcases vnew x z with q | q
      · exact svn x hx q
      · have := hP.lt x hx; omega
    · simp only [upd_other _ _ _ _ e] at hx
      refine ⟨(h.tk i x (by omega) hx).1, fun z => ?_⟩
      rcases vnew x z with q | q
      · exact (h.tk i x (by omega) hx).2 q
      · have := (h2.p i (by omega)).lt x hx; omega
  · have := hb3.size; have := h2.kl; simp; omega
theorem NK.done (h : NK w k j sv T mm s) (h1 : 1 ≤ j) (h7 : j ≤ 7) : ∃ S q cap, (∀ x, S x → k ≤ x) ∧ KBox w S k j q cap T mm (fun _ => ⟨false, List.replicate s zero128, noV⟩) (s : Int) 0 0 false := by
  obtain ⟨q, cap, rfl, hq1, hq2⟩ := h.l.form (by rw [rowV_len]; omega)
  have hl := h.l
  rw [rowV_len] at hl
  have hb := h.b
  rw [rowV_len] at hb
  refine ⟨fun x => x = k ∨ x = q ∨ ∃ i, i < j ∧ T i x, q, cap, ?_, ⟨hb, hl.mono (Nat.zero_le _), h.p, h.dj, fun i x hi hx => ⟨.inr (.inr ⟨i, hi, hx⟩), by have := (h.tk i x hi hx).1; omega, fun e => (h.tk i x hi hx).2 (by rw [e]; rfl)⟩, .inl rfl, .inr (.inl rfl), by omega, ?_, h1, h7⟩⟩
  · rintro x (rfl | rfl | ⟨i, hi, hx⟩)
    · exact Nat.le_refl _
    · omega
    · have := (h.tk i x hi hx).1; omega
  · rintro x (rfl | rfl | ⟨i, hi, hx⟩)
    · exact h.kl
    · exact hq2
    · exact (h.p i hi).lt x hx
end
set_option maxHeartbeats 2000000 in
theorem kt_new (n s : Nat) (w : World) (h1 : 1 ≤ n) (h7 : n ≤ 7) (hs1 : 1 ≤ s) (hs2 : s ≤ 256) :
    Calls Tryz.prog 40 #[.int .i64 (n : Int), .int .i64 (s : Int)] w fun e w' => ∃ S k, e = .returned (.tuple #[.pointer (some ⟨k, 0, none⟩), .int .i64 0]) ∧ KA w S w' k n ⟨fun _ => ⟨false, List.replicate s zero128, noV⟩, false, 0, 0⟩ := by
  have t1 : decide ((n : Int) < 1) = false := decide_eq_false (by omega)
  have t2 : decide ((7 : Int) < (n : Int)) = false := decide_eq_false (by omega)
  have cN := fun W => qnew_any s W hs1 hs2
  obtain ⟨k, hk⟩ : ∃ k, w.heap.size = k := ⟨_, rfl⟩
  have hb0 : Below w.heap.size w (w.alloc (.cells #[.slice none 0 0, .int .i64 (s : Int), .int .i64 0, .int .i64 0, .bool false] 116)) := (Below.refl _ _).alloc (Nat.le_refl _) _
  have h0 : NK (w.alloc (.cells #[.slice none 0 0, .int .i64 (s : Int), .int .i64 0, .int .i64 0, .bool false] 116)) k 0 (.slice none 0 0) (fun _ _ => False) (fun _ => 0) s :=
    ⟨by rw [← hk]; exact heap_alloc_new _ _, Own.nil _ _ _, fun i hi => absurd hi (Nat.not_lt_zero _), fun a c x ha => absurd ha (Nat.not_lt_zero _), fun i x hi => absurd hi (Nat.not_lt_zero _), by simp; omega⟩
  have hkH := Lib.hid hk
  go_enter Tryz.func40, Tryz.ntmps40
  go_wp2_with (fail)
  go_loopw [7] (fun t wr => ∃ (j : Nat) (sv : Value) (T : Nat → Nat → Prop) (mm : Nat → Nat), j ≤ n ∧ t = .int .i64 (j : Int) ∧ Below w.heap.size w wr ∧ NK wr k j sv T mm s) (fun t _ => n - (RowKit.intOf t).toNat)
  case atStart => exact ⟨0, _, _, _, by omega, rfl, hb0, h0⟩
  case round =>
    clear hb0 h0
    obtain ⟨j, sv, T, mm, hj, rfl, hb, hB⟩ := hrel
    by_cases hlt : j < n
    · have j1 : (j : Int) < (n : Int) := by omega
      have j2 : (j : Int) + 1 ≤ 8 := by omega
      go_wp2_with (fail)
      refine (cN _).mono ?_
      rintro e w2 ⟨S', m, rfl, hQ⟩
      obtain ⟨q', cap', F', hS2, hP⟩ := hQ.h
      have hb2 := hQ.b
      obtain ⟨_, w3, ⟨pa, pn, pc, rfl⟩, hap, c3, f3, hB3, hb3⟩ := hB.push hb2 (by omega) ⟨q', cap', F', hP⟩ hS2
      have c0 := (hB.after hb2).c0
      have hrel2 := Lib.hid (And.intro (hb.trans ((hb2.mono hb.size).trans (hb3.mono (by rw [hkH.out]; exact Nat.le_refl _)))) hB3)
      clear hB hb hb2 hP hS2 hB3 hb3 hQ
      go_wp2_with (at_builtin; refine wpList_append_run hap _ _ rfl rfl rfl rfl rfl ?_)
      go_roundw
      case rel => exact ⟨j + 1, _, _, _, by omega, by go_num, hrel2.out⟩
      case measure => simp [RowKit.intOf]; omega
    · obtain rfl : j = n := by omega
      obtain ⟨S, q, cap, hS, hR⟩ := hB.done h1 h7
      have hfin : Hid (KA w S wr k j ⟨fun _ => ⟨false, List.replicate s zero128, noV⟩, false, 0, 0⟩) := Lib.hid ⟨hb, fun x hx => by rw [hkH.out]; exact hS x hx, q, cap, T, mm, (s : Int), 0, hR, .inl ⟨rfl, Int.le_refl _, Int.le_refl _⟩, fun i hi => by simp⟩
      clear hB hb hR hS hlt
      go_wp2_with (fail)
      go_ret2
      exact ⟨S, k, rfl, hfin.out⟩
end Go.Proofs.YtfadglcpapiklaaGreatDoor
end
