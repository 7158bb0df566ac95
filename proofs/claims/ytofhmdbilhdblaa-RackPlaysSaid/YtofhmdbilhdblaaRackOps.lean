/- rack: what is asked of a slot. -/
import Derived.Test.YtofhmdbilhdblaaRackAct
namespace Go.Proofs.Ytofhmdbilhdblaa
open Go.RowKit
set_option linter.unusedVariables false
set_option linter.unusedSimpArgs false
set_option maxRecDepth 100000

theorem act_ok {w : World} {S : Nat → Prop} {k n : Nat} {Λ : RLay} {M : Nat → Mst} {acts armed : Int} (h : RBox w S k n Λ M false acts armed) (i : Nat) (hi : i < n) (ha : 0 ≤ acts ∧ acts ≤ 1000000000000) (hb : 0 ≤ armed ∧ armed ≤ 9000000000000000000) (h1 : armed ≠ 1) :
    Calls Try.prog 72 #[.pointer (some ⟨k, 0, none⟩), .int .i64 (i : Int)] w (ActM w S k n Λ M false (acts + 1) (nxt armed) 0) := by
  by_cases e : armed = 0
  · subst e; exact act_0 h i hi ha
  · have := act_n h i hi ha ⟨by omega, hb.2⟩
    rw [if_neg h1, beq_eq_false_iff_ne.2 h1] at this
    unfold nxt
    rw [if_neg e]; exact this
theorem act_last {w : World} {S : Nat → Prop} {k n : Nat} {Λ : RLay} {M : Nat → Mst} {acts : Int} (h : RBox w S k n Λ M false acts 1) (i : Nat) (hi : i < n) (ha : 0 ≤ acts ∧ acts ≤ 1000000000000) :
    Calls Try.prog 72 #[.pointer (some ⟨k, 0, none⟩), .int .i64 (i : Int)] w (ActM w S k n Λ M true (acts + 1) 0 90) := act_n h i hi ha ⟨by omega, by omega⟩
/-- What a call makes of a rack. -/
def RSs (w : World) (S : Nat → Prop) (w1 : World) (k n : Nat) (M : Nat → Mst) (off : Bool) (acts armed : Int) (u : Value) (e : Ending) (w' : World) : Prop := ∃ S', e = .returned u ∧ Stp S S' w1 w' ∧ RS w S' w' k n M off acts armed
theorem RS.made {w w1 w2 : World} {S S' : Nat → Prop} {k n k' n' : Nat} {Λ : RLay} {M M' : Nat → Mst} {off off' : Bool} {acts armed acts' armed' : Int} (h : RS w S w1 k n M off acts armed) (hs : Stp S S' w1 w2) (hp : RBox w2 S' k' n' Λ M' off' acts' armed') : RS w S' w2 k' n' M' off' acts' armed' :=
  ⟨h.b.trans (hs.below h.f h.b.size), fun x hx => by
    rcases hs.grow x hx with z | z
    · exact h.f x z
    · exact Nat.le_trans h.b.size z, Λ, hp⟩
theorem upd_self (M : Nat → Mst) (i : Nat) : upd M i (M i) = M := by
  funext j; unfold upd; by_cases e : j = i
  · rw [if_pos e, e]
  · rw [if_neg e]
section
variable {w w1 : World} {S : Nat → Prop} {k n : Nat} {M : Nat → Mst} {off : Bool} {acts armed : Int}
theorem rs_write (h : RS w S w1 k n M false acts armed) (i : Nat) (hi : i < n) (ha : 0 ≤ acts ∧ acts ≤ 1000000000000) (hb : 0 ≤ armed ∧ armed ≤ 9000000000000000000) (h1 : armed ≠ 1) {L : List ByteArray} {V : Int → List ByteArray} (hM : M i = ⟨false, L, V⟩) (at_ : Nat) (hat : at_ < L.length) (s : ByteArray) (hs : s.size = 128) (hv : (V at_).length ≤ 1000000000000) :
    Calls Try.prog 41 #[.pointer (some ⟨k, 0, none⟩), .int .i64 (i : Int), .int .i64 (at_ : Int), .string s] w1 (RSs w S w1 k n (upd M i ⟨false, L, updZ V at_ (V at_ ++ [s])⟩) false (acts + 1) (nxt armed) (.int .i64 0)) := by
  obtain ⟨Λ, hB⟩ := h.h
  have ca := act_ok hB i hi ha hb h1
  have hk : (i : Int) < (n : Int) := by omega
  go_enter Try.func41, Try.ntmps41
  go_wp2_with (fail)
  refine ca.mono ?_
  rintro e w2 ⟨rfl, s2, hB2⟩
  have c0 := hB2.c0
  have cs := hB2.slot hi
  have hp := hB2.p i hi
  rw [hM] at hp
  have cm := write_any hp at_ hat s hs hv
  have hMade := Lib.hid h
  clear h hB ca hp
  go_wp2_with (fail)
  refine cm.mono ?_
  rintro e w3 ⟨rfl, T', F', hs3, hp3⟩
  obtain ⟨S', s4, hB4⟩ := hB2.turn (st := ⟨false, L, updZ V at_ (V at_ ++ [s])⟩) hi hs3 hp3
  have hfin := Lib.hid (And.intro (s2.trans s4) (hMade.out.made (s2.trans s4) hB4))
  clear hB2 s2 cm hB4 s4 hs3 hp3
  go_wp2_with (fail)
  go_ret
  exact ⟨S', rfl, hfin.out⟩
theorem rs_flush (h : RS w S w1 k n M false acts armed) (i : Nat) (hi : i < n) (ha : 0 ≤ acts ∧ acts ≤ 1000000000000) (hb : 0 ≤ armed ∧ armed ≤ 9000000000000000000) (h1 : armed ≠ 1) {L : List ByteArray} {V : Int → List ByteArray} (hM : M i = ⟨false, L, V⟩) (hv : ∀ z, (V z).length ≤ 1000000000000) :
    Calls Try.prog 43 #[.pointer (some ⟨k, 0, none⟩), .int .i64 (i : Int)] w1 (RSs w S w1 k n (upd M i ⟨false, flush L V, noV⟩) false (acts + 1) (nxt armed) (.int .i64 0)) := by
  obtain ⟨Λ, hB⟩ := h.h
  have ca := act_ok hB i hi ha hb h1
  have hk : (i : Int) < (n : Int) := by omega
  go_enter Try.func43, Try.ntmps43
  go_wp2_with (fail)
  refine ca.mono ?_
  rintro e w2 ⟨rfl, s2, hB2⟩
  have c0 := hB2.c0
  have cs := hB2.slot hi
  have hp := hB2.p i hi
  rw [hM] at hp
  have cm := flush_any hp hv
  have hMade := Lib.hid h
  clear h hB ca hp
  go_wp2_with (fail)
  refine cm.mono ?_
  rintro e w3 ⟨rfl, hs3, hp3⟩
  obtain ⟨S', s4, hB4⟩ := hB2.turn (st := ⟨false, flush L V, noV⟩) hi hs3 hp3
  have hfin := Lib.hid (And.intro (s2.trans s4) (hMade.out.made (s2.trans s4) hB4))
  clear hB2 s2 cm hB4 s4 hs3 hp3
  go_wp2_with (fail)
  go_ret
  exact ⟨S', rfl, hfin.out⟩
theorem rs_writed (h : RS w S w1 k n M false acts armed) (i : Nat) (hi : i < n) (ha : 0 ≤ acts ∧ acts ≤ 1000000000000) (hb : 0 ≤ armed ∧ armed ≤ 9000000000000000000) (h1 : armed ≠ 1) {L : List ByteArray} {V : Int → List ByteArray} (hM : M i = ⟨true, L, V⟩) (at_ : Int) (s : ByteArray) :
    Calls Try.prog 41 #[.pointer (some ⟨k, 0, none⟩), .int .i64 (i : Int), .int .i64 at_, .string s] w1 (RSs w S w1 k n M false (acts + 1) (nxt armed) (.int .i64 80)) := by
  obtain ⟨Λ, hB⟩ := h.h
  have ca := act_ok hB i hi ha hb h1
  have hk : (i : Int) < (n : Int) := by omega
  go_enter Try.func41, Try.ntmps41
  go_wp2_with (fail)
  refine ca.mono ?_
  rintro e w2 ⟨rfl, s2, hB2⟩
  have c0 := hB2.c0
  have cs := hB2.slot hi
  have hp := hB2.p i hi
  rw [hM] at hp
  have cm := write_dead hp at_ s
  have hMade := Lib.hid h
  clear h hB ca hp
  go_wp2_with (fail)
  refine cm.mono ?_
  rintro e w3 ⟨rfl, rfl⟩
  have hfin := Lib.hid (And.intro s2 (hMade.out.made s2 hB2))
  clear hB2 s2 cm
  go_wp2_with (fail)
  go_ret
  exact ⟨S, rfl, hfin.out⟩
theorem rs_flushd (h : RS w S w1 k n M false acts armed) (i : Nat) (hi : i < n) (ha : 0 ≤ acts ∧ acts ≤ 1000000000000) (hb : 0 ≤ armed ∧ armed ≤ 9000000000000000000) (h1 : armed ≠ 1) {L : List ByteArray} {V : Int → List ByteArray} (hM : M i = ⟨true, L, V⟩) :
    Calls Try.prog 43 #[.pointer (some ⟨k, 0, none⟩), .int .i64 (i : Int)] w1 (RSs w S w1 k n M false (acts + 1) (nxt armed) (.int .i64 80)) := by
  obtain ⟨Λ, hB⟩ := h.h
  have ca := act_ok hB i hi ha hb h1
  have hk : (i : Int) < (n : Int) := by omega
  go_enter Try.func43, Try.ntmps43
  go_wp2_with (fail)
  refine ca.mono ?_
  rintro e w2 ⟨rfl, s2, hB2⟩
  have c0 := hB2.c0
  have cs := hB2.slot hi
  have hp := hB2.p i hi
  rw [hM] at hp
  have cm := flush_dead hp
  have hMade := Lib.hid h
  clear h hB ca hp
  go_wp2_with (fail)
  refine cm.mono ?_
  rintro e w3 ⟨rfl, rfl⟩
  have hfin := Lib.hid (And.intro s2 (hMade.out.made s2 hB2))
  clear hB2 s2 cm
  go_wp2_with (fail)
  go_ret
  exact ⟨S, rfl, hfin.out⟩
theorem rs_writel (h : RS w S w1 k n M false acts 1) (i : Nat) (hi : i < n) (ha : 0 ≤ acts ∧ acts ≤ 1000000000000) (at_ : Int) (s : ByteArray) :
    Calls Try.prog 41 #[.pointer (some ⟨k, 0, none⟩), .int .i64 (i : Int), .int .i64 at_, .string s] w1 (RSs w S w1 k n M true (acts + 1) 0 (.int .i64 90)) := by
  obtain ⟨Λ, hB⟩ := h.h
  have ca := act_last hB i hi ha
  go_enter Try.func41, Try.ntmps41
  go_wp2_with (fail)
  refine ca.mono ?_
  rintro e w2 ⟨rfl, s2, hB2⟩
  have hfin := Lib.hid (And.intro s2 (h.made s2 hB2))
  clear h hB ca hB2 s2
  go_wp2_with (fail)
  go_ret
  exact ⟨S, rfl, hfin.out⟩
theorem rs_flushl (h : RS w S w1 k n M false acts 1) (i : Nat) (hi : i < n) (ha : 0 ≤ acts ∧ acts ≤ 1000000000000) :
    Calls Try.prog 43 #[.pointer (some ⟨k, 0, none⟩), .int .i64 (i : Int)] w1 (RSs w S w1 k n M true (acts + 1) 0 (.int .i64 90)) := by
  obtain ⟨Λ, hB⟩ := h.h
  have ca := act_last hB i hi ha
  go_enter Try.func43, Try.ntmps43
  go_wp2_with (fail)
  refine ca.mono ?_
  rintro e w2 ⟨rfl, s2, hB2⟩
  have hfin := Lib.hid (And.intro s2 (h.made s2 hB2))
  clear h hB ca hB2 s2
  go_wp2_with (fail)
  go_ret
  exact ⟨S, rfl, hfin.out⟩
theorem rs_writeo (h : RS w S w1 k n M true acts armed) (i : Nat) (hi : i < n) (at_ : Int) (s : ByteArray) :
    Calls Try.prog 41 #[.pointer (some ⟨k, 0, none⟩), .int .i64 (i : Int), .int .i64 at_, .string s] w1 fun e w' => e = .returned (.int .i64 90) ∧ w1 = w' := by
  obtain ⟨Λ, hB⟩ := h.h
  have ca := act_off hB i hi
  clear h hB
  go_enter Try.func41, Try.ntmps41
  go_wp2_with (fail)
  refine ca.mono ?_
  rintro e w2 ⟨rfl, rfl⟩
  clear ca
  go_wp2_with (fail)
  go_ret
  exact ⟨rfl, rfl⟩
theorem rs_flusho (h : RS w S w1 k n M true acts armed) (i : Nat) (hi : i < n) :
    Calls Try.prog 43 #[.pointer (some ⟨k, 0, none⟩), .int .i64 (i : Int)] w1 fun e w' => e = .returned (.int .i64 90) ∧ w1 = w' := by
  obtain ⟨Λ, hB⟩ := h.h
  have ca := act_off hB i hi
  clear h hB
  go_enter Try.func43, Try.ntmps43
  go_wp2_with (fail)
  refine ca.mono ?_
  rintro e w2 ⟨rfl, rfl⟩
  clear ca
  go_wp2_with (fail)
  go_ret
  exact ⟨rfl, rfl⟩
theorem rs_read (h : RS w S w1 k n M false acts armed) (i : Nat) (hi : i < n) {L : List ByteArray} {V : Int → List ByteArray} (hM : M i = ⟨false, L, V⟩) (at_ : Nat) (hat : at_ < L.length) (hv : (V at_).length ≤ 1000000000000) :
    Calls Try.prog 55 #[.pointer (some ⟨k, 0, none⟩), .int .i64 (i : Int), .int .i64 (at_ : Int)] w1 (GivesR w1 (lastOf (V at_) L[at_]) 0) := by
  obtain ⟨Λ, hB⟩ := h.h
  have cr := reach_on hB i hi
  have hk : (i : Int) < (n : Int) := by omega
  have c0 := hB.c0
  have cs := hB.slot hi
  have hp := hB.p i hi
  rw [hM] at hp
  have cm := read_any hp at_ hat (Nat.le_trans hv (by omega))
  generalize lastOf (V at_) L[at_] = s at *
  clear h hB hp
  go_enter Try.func55, Try.ntmps55
  go_wp2_with (fail)
  refine cr.mono ?_
  rintro e w' ⟨rfl, rfl⟩
  go_wp2_with (fail)
  refine cm.mono ?_
  rintro e w3 ⟨rfl, b3⟩
  go_wp2_with (fail)
  go_ret2
  exact ⟨rfl, b3⟩
theorem rs_reado (h : RS w S w1 k n M true acts armed) (i : Nat) (hi : i < n) (at_ : Int) :
    Calls Try.prog 55 #[.pointer (some ⟨k, 0, none⟩), .int .i64 (i : Int), .int .i64 at_] w1 fun e w' => e = .returned (.tuple #[.string ⟨#[]⟩, .int .i64 90]) ∧ w1 = w' := by
  obtain ⟨Λ, hB⟩ := h.h
  have cr := reach_off hB i hi
  clear h hB
  go_enter Try.func55, Try.ntmps55
  go_wp2_with (fail)
  refine cr.mono ?_
  rintro e w' ⟨rfl, rfl⟩
  go_wp2_with (fail)
  go_ret2
  exact ⟨rfl, rfl⟩
theorem rs_readn (h : RS w S w1 k n M off acts armed) (s : Int) (hs : hasK n s = false) (at_ : Int) :
    Calls Try.prog 55 #[.pointer (some ⟨k, 0, none⟩), .int .i64 s, .int .i64 at_] w1 fun e w' => e = .returned (.tuple #[.string ⟨#[]⟩, .int .i64 91]) ∧ w1 = w' := by
  obtain ⟨Λ, hB⟩ := h.h
  have cr := reach_no hB s hs
  clear h hB
  go_enter Try.func55, Try.ntmps55
  go_wp2_with (fail)
  refine cr.mono ?_
  rintro e w' ⟨rfl, rfl⟩
  go_wp2_with (fail)
  go_ret2
  exact ⟨rfl, rfl⟩
theorem rs_image (h : RS w S w1 k n M off acts armed) (i : Nat) (hi : i < n) {L : List ByteArray} {V : Int → List ByteArray} (hM : M i = ⟨false, L, V⟩) :
    Calls Try.prog 61 #[.pointer (some ⟨k, 0, none⟩), .int .i64 (i : Int)] w1 (GivesI w1 L) := by
  obtain ⟨Λ, hB⟩ := h.h
  have ch := hask_any hB i
  rw [hasK_nat hi] at ch
  have hk : (i : Int) < (n : Int) := by omega
  have c0 := hB.c0
  have cs := hB.slot hi
  have hp := hB.p i hi
  rw [hM] at hp
  have cm := image_any hp
  clear h hB hp
  go_enter Try.func61, Try.ntmps61
  go_wp2_with (fail)
  refine ch.mono ?_
  rintro e w' ⟨rfl, rfl⟩
  go_wp2_with (fail)
  refine cm.mono ?_
  rintro e w3 ⟨x, rfl, b3, o3⟩
  go_wp2_with (fail)
  go_ret
  exact ⟨x, rfl, b3, o3⟩
theorem rs_imaged (h : RS w S w1 k n M off acts armed) (i : Nat) (hi : i < n) {L : List ByteArray} {V : Int → List ByteArray} (hM : M i = ⟨true, L, V⟩) :
    Calls Try.prog 61 #[.pointer (some ⟨k, 0, none⟩), .int .i64 (i : Int)] w1 fun e w' => e = .returned (.slice none 0 0) ∧ w1 = w' := by
  obtain ⟨Λ, hB⟩ := h.h
  have ch := hask_any hB i
  rw [hasK_nat hi] at ch
  have hk : (i : Int) < (n : Int) := by omega
  have c0 := hB.c0
  have cs := hB.slot hi
  have hp := hB.p i hi
  rw [hM] at hp
  have cm := image_dead hp
  clear h hB hp
  go_enter Try.func61, Try.ntmps61
  go_wp2_with (fail)
  refine ch.mono ?_
  rintro e w' ⟨rfl, rfl⟩
  go_wp2_with (fail)
  refine cm.mono ?_
  rintro e w' ⟨rfl, rfl⟩
  go_wp2_with (fail)
  go_ret
  exact ⟨rfl, rfl⟩
theorem rs_alive (h : RS w S w1 k n M off acts armed) (i : Nat) (hi : i < n) :
    Calls Try.prog 57 #[.pointer (some ⟨k, 0, none⟩), .int .i64 (i : Int)] w1 fun e w' => e = .returned (.bool (!(M i).fd)) ∧ w1 = w' := by
  obtain ⟨Λ, hB⟩ := h.h
  have ch := hask_any hB i
  rw [hasK_nat hi] at ch
  have hk : (i : Int) < (n : Int) := by omega
  have c0 := hB.c0
  have cs := hB.slot hi
  have cm := alive_any (hB.p i hi)
  generalize (M i).fd = fd at *
  clear h hB
  go_enter Try.func57, Try.ntmps57
  go_wp2_with (fail)
  refine ch.mono ?_
  rintro e w' ⟨rfl, rfl⟩
  go_wp2_with (fail)
  refine cm.mono ?_
  rintro e w' ⟨rfl, rfl⟩
  go_wp2_with (fail)
  go_ret
  exact ⟨rfl, rfl⟩
theorem rs_pend (h : RS w S w1 k n M off acts armed) (i : Nat) (hi : i < n) :
    Calls Try.prog 59 #[.pointer (some ⟨k, 0, none⟩), .int .i64 (i : Int)] w1 fun e w' => e = .returned (.int .i64 ((pend (M i).L.length (M i).V).length : Int)) ∧ Below w1.heap.size w1 w' := by
  obtain ⟨Λ, hB⟩ := h.h
  have ch := hask_any hB i
  rw [hasK_nat hi] at ch
  have hk : (i : Int) < (n : Int) := by omega
  have c0 := hB.c0
  have cs := hB.slot hi
  have cm := pend_any (hB.p i hi)
  generalize pend (M i).L.length (M i).V = P at *
  clear h hB
  go_enter Try.func59, Try.ntmps59
  go_wp2_with (fail)
  refine ch.mono ?_
  rintro e w' ⟨rfl, rfl⟩
  go_wp2_with (fail)
  refine cm.mono ?_
  rintro e w3 ⟨v, rfl, b3, o3⟩
  have hl := fun W => o3.reads.len_run (P := Try.prog) Try.underlying31 3 W
  rw [List.length_map] at hl
  clear o3 cm
  go_wp2_with (fail)
  go_ret
  exact ⟨rfl, b3⟩
theorem rs_fail (h : RS w S w1 k n M off acts armed) (i : Nat) (hi : i < n) :
    Calls Try.prog 49 #[.pointer (some ⟨k, 0, none⟩), .int .i64 (i : Int)] w1 (RSs w S w1 k n (upd M i ⟨true, List.replicate (M i).L.length zero128, noV⟩) off acts armed (.bool true)) := by
  obtain ⟨Λ, hB⟩ := h.h
  have ch := hask_any hB i
  rw [hasK_nat hi] at ch
  have hk : (i : Int) < (n : Int) := by omega
  have c0 := hB.c0
  have cs := hB.slot hi
  have cm := fail_any (hB.p i hi)
  go_enter Try.func49, Try.ntmps49
  go_wp2_with (fail)
  refine ch.mono ?_
  rintro e w' ⟨rfl, rfl⟩
  go_wp2_with (fail)
  refine cm.mono ?_
  rintro e w3 ⟨rfl, hs3, hp3⟩
  obtain ⟨s4, hB4⟩ := hB.turnS (st := ⟨true, List.replicate (M i).L.length zero128, noV⟩) hi hs3 hp3
  have ch4 := hask_any hB4 i
  rw [hasK_nat hi] at ch4
  have hfin := Lib.hid (And.intro s4 (h.made s4 hB4))
  clear h hB cm hs3 hp3 s4 hB4 ch
  go_wp2_with (fail)
  refine ch4.mono ?_
  rintro e w' ⟨rfl, rfl⟩
  go_wp2_with (fail)
  go_ret
  exact ⟨S, rfl, hfin.out⟩
theorem rs_blank (h : RS w S w1 k n M off acts armed) (i : Nat) (hi : i < n) :
    Calls Try.prog 51 #[.pointer (some ⟨k, 0, none⟩), .int .i64 (i : Int)] w1 (RSs w S w1 k n (upd M i ⟨false, List.replicate (M i).L.length zero128, noV⟩) off acts armed (.bool true)) := by
  obtain ⟨Λ, hB⟩ := h.h
  have ch := hask_any hB i
  rw [hasK_nat hi] at ch
  have hk : (i : Int) < (n : Int) := by omega
  have c0 := hB.c0
  have cs := hB.slot hi
  have cm := blank_any (hB.p i hi)
  go_enter Try.func51, Try.ntmps51
  go_wp2_with (fail)
  refine ch.mono ?_
  rintro e w' ⟨rfl, rfl⟩
  go_wp2_with (fail)
  refine cm.mono ?_
  rintro e w3 ⟨rfl, hs3, hp3⟩
  obtain ⟨s4, hB4⟩ := hB.turnS (st := ⟨false, List.replicate (M i).L.length zero128, noV⟩) hi hs3 hp3
  have ch4 := hask_any hB4 i
  rw [hasK_nat hi] at ch4
  have hfin := Lib.hid (And.intro s4 (h.made s4 hB4))
  clear h hB cm hs3 hp3 s4 hB4 ch
  go_wp2_with (fail)
  refine ch4.mono ?_
  rintro e w' ⟨rfl, rfl⟩
  go_wp2_with (fail)
  go_ret
  exact ⟨S, rfl, hfin.out⟩
theorem rs_rot (h : RS w S w1 k n M off acts armed) (i : Nat) (hi : i < n) (a j b : Nat) (hr : rotB (M i).fd (M i).L (M i).V a j b = true) (hnl : a < (M i).L.length) (hj : j < 128) (hb : b < 256) :
    Calls Try.prog 53 #[.pointer (some ⟨k, 0, none⟩), .int .i64 (i : Int), .int .i64 (a : Int), .int .i64 (j : Int), .int .i64 (b : Int)] w1 (RSs w S w1 k n (upd M i ⟨false, (M i).L.set a (rotS (M i).L[a] j b), (M i).V⟩) off acts armed (.bool true)) := by
  obtain ⟨Λ, hB⟩ := h.h
  have ch := hask_any hB i
  rw [hasK_nat hi] at ch
  have hk : (i : Int) < (n : Int) := by omega
  have c0 := hB.c0
  have cs := hB.slot hi
  have cm := rot_yes (hB.p i hi) a j b hr hnl hj hb
  go_enter Try.func53, Try.ntmps53
  go_wp2_with (fail)
  refine ch.mono ?_
  rintro e w' ⟨rfl, rfl⟩
  go_wp2_with (fail)
  refine cm.mono ?_
  rintro e w3 ⟨rfl, hs3, hp3⟩
  obtain ⟨s4, hB4⟩ := hB.turnS (st := ⟨false, (M i).L.set a (rotS (M i).L[a] j b), (M i).V⟩) hi hs3 hp3
  have hfin := Lib.hid (And.intro s4 (h.made s4 hB4))
  clear h hB cm hs3 hp3 s4 hB4 ch hr
  go_wp2_with (fail)
  go_ret
  exact ⟨S, rfl, hfin.out⟩
theorem rs_rotn (h : RS w S w1 k n M off acts armed) (i : Nat) (hi : i < n) (a j b : Int) (haI : In64 a) (hr : rotB (M i).fd (M i).L (M i).V a j b = false) :
    Calls Try.prog 53 #[.pointer (some ⟨k, 0, none⟩), .int .i64 (i : Int), .int .i64 a, .int .i64 j, .int .i64 b] w1 fun e w' => e = .returned (.bool false) ∧ w1 = w' := by
  obtain ⟨Λ, hB⟩ := h.h
  have ch := hask_any hB i
  rw [hasK_nat hi] at ch
  have hk : (i : Int) < (n : Int) := by omega
  have c0 := hB.c0
  have cs := hB.slot hi
  have cm := rot_no (hB.p i hi) a j b haI hr
  clear h hB hr
  go_enter Try.func53, Try.ntmps53
  go_wp2_with (fail)
  refine ch.mono ?_
  rintro e w' ⟨rfl, rfl⟩
  go_wp2_with (fail)
  refine cm.mono ?_
  rintro e w' ⟨rfl, rfl⟩
  go_wp2_with (fail)
  go_ret
  exact ⟨rfl, rfl⟩
theorem rs_slots (h : RS w S w1 k n M off acts armed) : Calls Try.prog 70 #[.pointer (some ⟨k, 0, none⟩)] w1 fun e w' => e = .returned (.int .i64 (n : Int)) ∧ w1 = w' := by
  obtain ⟨Λ, hB⟩ := h.h
  exact slotsk_any hB
theorem rs_acts (h : RS w S w1 k n M off acts armed) : Calls Try.prog 69 #[.pointer (some ⟨k, 0, none⟩)] w1 fun e w' => e = .returned (.int .i64 acts) ∧ w1 = w' := by
  obtain ⟨Λ, hB⟩ := h.h
  exact actsk_any hB
theorem rs_off (h : RS w S w1 k n M off acts armed) : Calls Try.prog 68 #[.pointer (some ⟨k, 0, none⟩)] w1 fun e w' => e = .returned (.bool off) ∧ w1 = w' := by
  obtain ⟨Λ, hB⟩ := h.h
  exact offk_any hB
theorem rs_sectors (h : RS w S w1 k n M off acts armed) (h0 : 0 < n) : Calls Try.prog 71 #[.pointer (some ⟨k, 0, none⟩)] w1 fun e w' => e = .returned (.int .i64 ((M 0).L.length : Int)) ∧ w1 = w' := by
  obtain ⟨Λ, hB⟩ := h.h
  have hk : (0 : Int) < (n : Int) := by omega
  have c0 := hB.c0
  have cs := hB.slot h0
  have cm := size_any (hB.p 0 h0)
  generalize (M 0).L.length = l at *
  clear h hB
  go_enter Try.func71, Try.ntmps71
  go_wp2_with (fail)
  refine cm.mono ?_
  rintro e w' ⟨rfl, rfl⟩
  go_wp2_with (fail)
  go_ret
  exact ⟨rfl, rfl⟩
theorem rs_arm (h : RS w S w1 k n M off acts armed) (a : Int) (ha : 0 ≤ a ∧ a ≤ 1099511627776) :
    Calls Try.prog 45 #[.pointer (some ⟨k, 0, none⟩), .int .i64 a] w1 (RSs w S w1 k n M off acts a (.int .i64 0)) := by
  obtain ⟨Λ, hB⟩ := h.h
  have c3 := hB.c3
  have f3 := hB.f 3
  obtain ⟨h1, s1⟩ := hB.setK 3 (.int .i64 a) off acts a rfl
  have t1 : decide (a < 0) = false := decide_eq_false (by omega)
  have t2 : decide ((1099511627776 : Int) < a) = false := decide_eq_false (by omega)
  have hfin := Lib.hid (And.intro s1 (h.made s1 h1))
  clear h hB h1 s1
  go_enter Try.func45, Try.ntmps45
  go_wp2_with (fail)
  go_ret
  exact ⟨S, rfl, hfin.out⟩
end
end Go.Proofs.Ytofhmdbilhdblaa
