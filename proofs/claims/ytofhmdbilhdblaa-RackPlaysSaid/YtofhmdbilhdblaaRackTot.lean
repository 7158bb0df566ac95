/- rack: what each call does, whatever is asked. -/
import Derived.Test.YtofhmdbilhdblaaRackRe
import Derived.Test.YtofhmdbilhdblaaRackOps
import Derived.Test.YtofhmdbilhdblaaMemTot
namespace Go.Proofs.Ytofhmdbilhdblaa
open Go.RowKit
set_option linter.unusedVariables false
set_option linter.unusedSimpArgs false
set_option maxRecDepth 100000

/-- What a rack is. -/
structure Rk where
  M : Nat → Mst
  off : Bool
  acts : Int
  armed : Int
def RA (w : World) (S : Nat → Prop) (w' : World) (k n : Nat) (R : Rk) : Prop := RS w S w' k n R.M R.off R.acts R.armed
def ROk (n : Nat) (R : Rk) (b : Nat) : Prop := (0 ≤ R.acts ∧ R.acts ≤ b) ∧ (0 ≤ R.armed ∧ R.armed ≤ 1099511627776) ∧ ∀ i, i < n → Vn (R.M i) b
def akE (n : Nat) (R : Rk) (s : Int) : Int := if hasK n s = true then (if R.off = true then 90 else if R.armed = 1 then 90 else 0) else 91
def akR (n : Nat) (R : Rk) (s : Int) : Rk := if hasK n s = true ∧ R.off = false then ⟨R.M, decide (R.armed = 1), R.acts + 1, nxt R.armed⟩ else R
def rhE (n : Nat) (R : Rk) (s : Int) : Int := if hasK n s = true then (if R.off = true then 90 else 0) else 91
def wrR (n : Nat) (R : Rk) (s at_ : Int) (t : ByteArray) : Rk := if akE n R s = 0 then { akR n R s with M := upd R.M s.toNat (wrM (R.M s.toNat) at_ t) } else akR n R s
def wrRE (n : Nat) (R : Rk) (s at_ : Int) (t : ByteArray) : Int := if akE n R s = 0 then wrE (R.M s.toNat) at_ t else akE n R s
def flR (n : Nat) (R : Rk) (s : Int) : Rk := if akE n R s = 0 then { akR n R s with M := upd R.M s.toNat (flM (R.M s.toNat)) } else akR n R s
def flRE (n : Nat) (R : Rk) (s : Int) : Int := if akE n R s = 0 then flE (R.M s.toNat) else akE n R s
def rdRS (n : Nat) (R : Rk) (s at_ : Int) : ByteArray := if rhE n R s = 0 then rdS (R.M s.toNat) at_ else ⟨#[]⟩
def rdRE (n : Nat) (R : Rk) (s at_ : Int) : Int := if rhE n R s = 0 then rdE (R.M s.toNat) at_ else rhE n R s
def arOk (a : Int) : Bool := decide (0 ≤ a) && decide (a ≤ 1099511627776)
def arR (R : Rk) (a : Int) : Rk := if arOk a = true then { R with armed := a } else R
def arE (a : Int) : Int := if arOk a = true then 0 else 1
def reR (R : Rk) (l : List (Value × List Int)) : Rk := ⟨fun i => crashM (R.M i) (chs l i), false, R.acts, 0⟩
def upR (n : Nat) (R : Rk) (s : Int) (f : Mst → Mst) : Rk := if hasK n s = true then { R with M := upd R.M s.toNat (f (R.M s.toNat)) } else R
def roRB (n : Nat) (R : Rk) (s a j b : Int) : Bool := hasK n s && rotB (R.M s.toNat).fd (R.M s.toNat).L (R.M s.toNat).V a j b
def alR (n : Nat) (R : Rk) (s : Int) : Bool := hasK n s && !(R.M s.toNat).fd
def imR (n : Nat) (R : Rk) (s : Int) : List ByteArray := if hasK n s = true then imL (R.M s.toNat) else []
def peR (n : Nat) (R : Rk) (s : Int) : Int := if hasK n s = true then ((pend (R.M s.toNat).L.length (R.M s.toNat).V).length : Int) else 0
theorem hasK_is {n : Nat} {s : Int} (h : hasK n s = true) : ∃ i : Nat, s = (i : Int) ∧ i < n := by
  unfold hasK at h
  rw [Bool.and_eq_true, decide_eq_true_iff, decide_eq_true_iff] at h
  obtain ⟨i, rfl⟩ := Int.eq_ofNat_of_zero_le h.1
  exact ⟨i, rfl, by omega⟩
theorem hasK_or (n : Nat) (s : Int) : hasK n s = false ∨ ∃ i : Nat, s = (i : Int) ∧ i < n ∧ hasK n s = true := by
  cases h : hasK n s
  · exact .inl rfl
  · obtain ⟨i, h1, h2⟩ := hasK_is h
    exact .inr ⟨i, h1, h2, rfl⟩
theorem ROk.ak {n : Nat} {R : Rk} {b : Nat} (h : ROk n R b) (s : Int) : ROk n (akR n R s) (b + 1) := by
  obtain ⟨h1, h2, h3⟩ := h
  unfold akR
  split
  · refine ⟨⟨by show 0 ≤ R.acts + 1; omega, by show R.acts + 1 ≤ _; omega⟩, ?_, fun i hi => (h3 i hi).le (by omega)⟩
    show 0 ≤ nxt R.armed ∧ nxt R.armed ≤ _
    unfold nxt; split <;> omega
  · exact ⟨⟨h1.1, by omega⟩, h2, fun i hi => (h3 i hi).le (by omega)⟩
theorem upd_vn {n : Nat} {M : Nat → Mst} {b j : Nat} {st : Mst} (h : ∀ i, i < n → Vn (M i) b) (hs : Vn st b) : ∀ i, i < n → Vn (upd M j st i) b := fun i hi => by
  by_cases e : i = j
  · rw [e, upd_same]; exact hs
  · rw [upd_other _ _ _ _ e]; exact h i hi
theorem akE_ok {n : Nat} {R : Rk} {s : Int} (h : akE n R s = 0) : ∃ i : Nat, s = (i : Int) ∧ i < n ∧ R.off = false ∧ R.armed ≠ 1 := by
  unfold akE at h
  rcases hasK_or n s with h1 | ⟨i, rfl, h2, h3⟩
  · rw [if_neg (by rw [h1]; simp)] at h; omega
  · rw [if_pos h3] at h
    cases ho : R.off
    · rw [ho, if_neg (by simp)] at h
      refine ⟨i, rfl, h2, rfl, fun e => ?_⟩
      rw [if_pos e] at h; omega
    · rw [ho, if_pos rfl] at h; omega
theorem ROk.wr {n : Nat} {R : Rk} {b : Nat} (h : ROk n R b) (s a : Int) (t : ByteArray) : ROk n (wrR n R s a t) (b + 1) := by
  have h1 := h.ak s
  unfold wrR
  split
  · rename_i he
    obtain ⟨i, rfl, hi, _, _⟩ := akE_ok he
    refine ⟨h1.1, h1.2.1, upd_vn (fun i hi => (h.2.2 i hi).le (by omega)) ?_⟩
    rw [Int.toNat_natCast]
    exact (h.2.2 i hi).wr a t
  · exact h1
theorem ROk.fl {n : Nat} {R : Rk} {b : Nat} (h : ROk n R b) (s : Int) : ROk n (flR n R s) (b + 1) := by
  have h1 := h.ak s
  unfold flR
  split
  · rename_i he
    obtain ⟨i, rfl, hi, _, _⟩ := akE_ok he
    refine ⟨h1.1, h1.2.1, upd_vn (fun i hi => (h.2.2 i hi).le (by omega)) ?_⟩
    rw [Int.toNat_natCast]
    exact (h.2.2 i hi).fl.le (by omega)
  · exact h1
theorem ROk.le {n : Nat} {R : Rk} {b c : Nat} (h : ROk n R b) (hc : b ≤ c) : ROk n R c := ⟨⟨h.1.1, by have := h.1.2; omega⟩, h.2.1, fun i hi => (h.2.2 i hi).le hc⟩
theorem ROk.ar {n : Nat} {R : Rk} {b : Nat} (h : ROk n R b) (a : Int) : ROk n (arR R a) b := by
  unfold arR
  split
  · rename_i he
    unfold arOk at he
    rw [Bool.and_eq_true, decide_eq_true_iff, decide_eq_true_iff] at he
    exact ⟨h.1, he, h.2.2⟩
  · exact h
theorem ROk.re {n : Nat} {R : Rk} {b : Nat} (h : ROk n R b) (l : List (Value × List Int)) : ROk n (reR R l) b := ⟨h.1, ⟨Int.le_refl _, by show (0 : Int) ≤ _; omega⟩, fun i hi => Vn.none _ _ _⟩
theorem ROk.up {n : Nat} {R : Rk} {b : Nat} (h : ROk n R b) (s : Int) (f : Mst → Mst) (hf : ∀ M, Vn M b → Vn (f M) b) : ROk n (upR n R s f) b := by
  unfold upR
  split
  · rename_i he
    obtain ⟨i, rfl, hi⟩ := hasK_is he
    refine ⟨h.1, h.2.1, upd_vn h.2.2 ?_⟩
    rw [Int.toNat_natCast]
    exact hf _ (h.2.2 i hi)
  · exact h
/-- What a call leaves. -/
def RDoes (w : World) (S : Nat → Prop) (w1 : World) (k n : Nat) (R : Rk) (u : Value) (e : Ending) (w' : World) : Prop := e = .returned u ∧ ∃ S', Stp S S' w1 w' ∧ RA w S' w' k n R
section
variable {w w1 w2 : World} {S T T' : Nat → Prop} {k n : Nat} {R : Rk}
theorem RA.lt (h : RA w S w1 k n R) : ∀ x, S x → x < w1.heap.size := RS.lt h
theorem RA.from (h : RA w S w1 k n R) : ∀ x, S x → w.heap.size ≤ x := RS.f h
theorem RA.b (h : RA w S w1 k n R) : Below w.heap.size w w1 := RS.b h
theorem RA.after (h : RA w S w1 k n R) (hb : Below w1.heap.size w1 w2) : RA w S w2 k n R := RS.after h hb
theorem RA.stepR (h : RA w S w1 k n R) (hs : Stp T T' w1 w2) (hT : ∀ k, T k → w.heap.size ≤ k) (hST : ∀ k, S k → ¬ T k) : RA w S w2 k n R ∧ ∀ k, S k → ¬ T' k := RS.step h hs hT hST
theorem RBox.ma {Λ : RLay} {M : Nat → Mst} {off : Bool} {acts armed : Int} (hb : Below w.heap.size w w1) (hf : ∀ x, S x → w.heap.size ≤ x) (h : RBox w1 S k n Λ M off acts armed) {i : Nat} (hi : i < n) : MA w (Λ.T i) w1 (Λ.m i) (M i) :=
  ⟨_, _, _, hb, _, fun x hx => hf x (h.tS i x hi hx).1, h.p i hi⟩
theorem RBox.does {Λ : RLay} {M : Nat → Mst} {off : Bool} {acts armed : Int} (h0 : RA w S w1 k n R) {w3 : World} (hs0 : Stp S S w1 w2) (h : RBox w2 S k n Λ M off acts armed) {i : Nat} (hi : i < n) {T' : Nat → Prop} {st : Mst} (hs : Stp (Λ.T i) T' w2 w3) (hm : MA w T' w3 (Λ.m i) st) :
    ∃ S', Stp S S' w1 w3 ∧ RA w S' w3 k n ⟨upd M i st, off, acts, armed⟩ := by
  obtain ⟨g, bp, cap, hb, F, hf, hp⟩ := hm
  obtain ⟨S', s4, hB4⟩ := h.turn (st := st) hi hs hp
  exact ⟨S', hs0.trans s4, RS.made h0 (hs0.trans s4) hB4⟩
/-- An act, counted or not. -/
theorem rt_act (h : RA w S w1 k n R) (s : Int) (hk : ROk n R 1000000000000) {Λ : RLay} (hB : RBox w1 S k n Λ R.M R.off R.acts R.armed) :
    Calls Try.prog 72 #[.pointer (some ⟨k, 0, none⟩), .int .i64 s] w1 fun e w' => e = .returned (.int .i64 (akE n R s)) ∧ Stp S S w1 w' ∧ RBox w' S k n Λ (akR n R s).M (akR n R s).off (akR n R s).acts (akR n R s).armed := by
  obtain ⟨M, off, acts, armed⟩ := R
  unfold akE akR
  rcases hasK_or n s with h1 | ⟨i, rfl, h2, h3⟩
  · rw [if_neg (by rw [h1]; simp), if_neg (by rw [h1]; simp)]
    exact (act_no hB s h1).mono fun e w' ⟨he, hw⟩ => by subst hw; exact ⟨he, Stp.refl _ _, hB⟩
  · rw [if_pos h3]
    cases off with
    | true =>
      rw [if_pos rfl, if_neg (by simp)]
      exact (act_off hB i h2).mono fun e w' ⟨he, hw⟩ => by subst hw; exact ⟨he, Stp.refl _ _, hB⟩
    | false =>
      dsimp only
      rw [if_neg Bool.false_ne_true, if_pos (And.intro h3 rfl)]
      by_cases e1 : armed = 1
      · subst e1
        rw [if_pos rfl]
        exact (act_last hB i h2 ⟨hk.1.1, hk.1.2⟩).mono fun e w' ⟨he, hs, hb⟩ => ⟨he, hs, hb⟩
      · rw [if_neg e1]
        dsimp only
        rw [decide_eq_false e1]
        exact (act_ok hB i h2 ⟨hk.1.1, hk.1.2⟩ ⟨hk.2.1.1, Int.le_trans hk.2.1.2 (by omega)⟩ e1).mono fun e w' ⟨he, hs, hb⟩ => ⟨he, hs, hb⟩
end
section
variable {w w1 : World} {S : Nat → Prop} {k n : Nat} {R : Rk}
set_option maxHeartbeats 1000000 in
theorem rt_write (h : RA w S w1 k n R) (s : Int) (at_ : Int) (t : ByteArray) (hk : ROk n R 1000000000000) :
    Calls Try.prog 41 #[.pointer (some ⟨k, 0, none⟩), .int .i64 s, .int .i64 at_, .string t] w1 (RDoes w S w1 k n (wrR n R s at_ t) (.int .i64 (wrRE n R s at_ t))) := by
  obtain ⟨Λ, hB⟩ := h.h
  have ca := rt_act h s hk hB
  obtain ⟨E, hE⟩ : ∃ e, akE n R s = e := ⟨_, rfl⟩
  by_cases e0 : akE n R s = 0
  · obtain ⟨i, rfl, hi, ho, ha⟩ := akE_ok e0
    have hV : VOk (R.M i) := hk.2.2 i hi
    have hM1 : (akR n R (i : Int)).M = R.M := by unfold akR; split <;> rfl
    unfold wrR wrRE
    rw [if_pos e0, if_pos e0, Int.toNat_natCast]
    rw [e0] at ca
    have hk' : (i : Int) < (n : Int) := by omega
    obtain ⟨E1, hE1⟩ : ∃ e, wrE (R.M i) at_ t = e := ⟨_, rfl⟩
    rw [hE1]
    have hEH := Lib.hid hE1
    clear hE hE1
    go_enter Try.func41, Try.ntmps41
    go_wp2_with (fail)
    refine ca.mono ?_
    rintro e w2 ⟨rfl, s2, hB2⟩
    have c0 := hB2.c0
    have cs := hB2.slot hi
    have hma := RBox.ma (RA.b h |>.trans (s2.below (RA.from h) (RA.b h).size)) (RA.from h) hB2 hi
    rw [hM1] at hma hB2
    have cm := ma_write hma at_ t hV
    have hH := Lib.hid (And.intro h (And.intro s2 hB2))
    rw [hEH.out] at cm
    clear h hB ca hma hB2 s2 hEH e0
    go_wp2_with (fail)
    refine cm.mono ?_
    rintro e w3 ⟨rfl, T', hs3, hm3⟩
    have hfin := Lib.hid (RBox.does hH.out.1 hH.out.2.1 hH.out.2.2 hi hs3 hm3)
    clear cm hs3 hm3 hH
    go_wp2_with (fail)
    go_ret
    exact ⟨rfl, hfin.out⟩
  · unfold wrR wrRE
    rw [if_neg e0, if_neg e0]
    rw [hE] at ca e0 ⊢
    have eb : (E != 0) = true := by rw [bne_iff_ne]; exact e0
    have ec : (E == 0) = false := by rw [beq_eq_false_iff_ne]; exact e0
    clear hE
    go_enter Try.func41, Try.ntmps41
    go_wp2_with (fail)
    refine ca.mono ?_
    rintro e w2 ⟨rfl, s2, hB2⟩
    have hfin := Lib.hid (And.intro s2 (RS.made h s2 hB2))
    clear h hB ca hB2 s2 hk
    go_wp2_with (fail)
    go_ret
    exact ⟨rfl, S, hfin.out⟩
set_option maxHeartbeats 1000000 in
theorem rt_flush (h : RA w S w1 k n R) (s : Int) (hk : ROk n R 1000000000000) :
    Calls Try.prog 43 #[.pointer (some ⟨k, 0, none⟩), .int .i64 s] w1 (RDoes w S w1 k n (flR n R s) (.int .i64 (flRE n R s))) := by
  obtain ⟨Λ, hB⟩ := h.h
  have ca := rt_act h s hk hB
  obtain ⟨E, hE⟩ : ∃ e, akE n R s = e := ⟨_, rfl⟩
  by_cases e0 : akE n R s = 0
  · obtain ⟨i, rfl, hi, ho, ha⟩ := akE_ok e0
    have hV : VOk (R.M i) := hk.2.2 i hi
    have hM1 : (akR n R (i : Int)).M = R.M := by unfold akR; split <;> rfl
    unfold flR flRE
    rw [if_pos e0, if_pos e0, Int.toNat_natCast]
    rw [e0] at ca
    have hk' : (i : Int) < (n : Int) := by omega
    obtain ⟨E1, hE1⟩ : ∃ e, flE (R.M i) = e := ⟨_, rfl⟩
    rw [hE1]
    have hEH := Lib.hid hE1
    clear hE hE1
    go_enter Try.func43, Try.ntmps43
    go_wp2_with (fail)
    refine ca.mono ?_
    rintro e w2 ⟨rfl, s2, hB2⟩
    have c0 := hB2.c0
    have cs := hB2.slot hi
    have hma := RBox.ma (RA.b h |>.trans (s2.below (RA.from h) (RA.b h).size)) (RA.from h) hB2 hi
    rw [hM1] at hma hB2
    have cm := ma_flush hma hV
    have hH := Lib.hid (And.intro h (And.intro s2 hB2))
    rw [hEH.out] at cm
    clear h hB ca hma hB2 s2 hEH e0
    go_wp2_with (fail)
    refine cm.mono ?_
    rintro e w3 ⟨rfl, T', hs3, hm3⟩
    have hfin := Lib.hid (RBox.does hH.out.1 hH.out.2.1 hH.out.2.2 hi hs3 hm3)
    clear cm hs3 hm3 hH
    go_wp2_with (fail)
    go_ret
    exact ⟨rfl, hfin.out⟩
  · unfold flR flRE
    rw [if_neg e0, if_neg e0]
    rw [hE] at ca e0 ⊢
    have eb : (E != 0) = true := by rw [bne_iff_ne]; exact e0
    have ec : (E == 0) = false := by rw [beq_eq_false_iff_ne]; exact e0
    clear hE
    go_enter Try.func43, Try.ntmps43
    go_wp2_with (fail)
    refine ca.mono ?_
    rintro e w2 ⟨rfl, s2, hB2⟩
    have hfin := Lib.hid (And.intro s2 (RS.made h s2 hB2))
    clear h hB ca hB2 s2 hk
    go_wp2_with (fail)
    go_ret
    exact ⟨rfl, S, hfin.out⟩
theorem rhE_ok {n : Nat} {R : Rk} {s : Int} (h : rhE n R s = 0) : ∃ i : Nat, s = (i : Int) ∧ i < n ∧ R.off = false := by
  unfold rhE at h
  rcases hasK_or n s with h1 | ⟨i, rfl, h2, h3⟩
  · rw [if_neg (by rw [h1]; simp)] at h; omega
  · rw [if_pos h3] at h
    cases ho : R.off
    · exact ⟨i, rfl, h2, rfl⟩
    · rw [ho, if_pos rfl] at h; omega
theorem rt_reach {Λ : RLay} (hB : RBox w1 S k n Λ R.M R.off R.acts R.armed) (s : Int) :
    Calls Try.prog 76 #[.pointer (some ⟨k, 0, none⟩), .int .i64 s] w1 fun e w' => e = .returned (.int .i64 (rhE n R s)) ∧ w1 = w' := by
  obtain ⟨M, off, acts, armed⟩ := R
  unfold rhE
  rcases hasK_or n s with h1 | ⟨i, rfl, h2, h3⟩
  · rw [if_neg (by rw [h1]; simp)]; exact reach_no hB s h1
  · rw [if_pos h3]
    cases off with
    | true => exact reach_off hB i h2
    | false => exact reach_on hB i h2
theorem rt_read (h : RA w S w1 k n R) (s at_ : Int) (hk : ROk n R 1000000000000) :
    Calls Try.prog 55 #[.pointer (some ⟨k, 0, none⟩), .int .i64 s, .int .i64 at_] w1 fun e w' => e = .returned (.tuple #[.string (rdRS n R s at_), .int .i64 (rdRE n R s at_)]) ∧ Below w1.heap.size w1 w' := by
  obtain ⟨Λ, hB⟩ := h.h
  have cr := rt_reach (R := R) hB s
  unfold rdRS rdRE
  by_cases e0 : rhE n R s = 0
  · obtain ⟨i, rfl, hi, ho⟩ := rhE_ok e0
    rw [if_pos e0, if_pos e0, Int.toNat_natCast]
    rw [e0] at cr
    have hk' : (i : Int) < (n : Int) := by omega
    have c0 := hB.c0
    have cs := hB.slot hi
    have cm := ma_read (RBox.ma (RA.b h) (RA.from h) hB hi) at_ (hk.2.2 i hi)
    generalize rdS (R.M i) at_ = x at *
    generalize rdE (R.M i) at_ = y at *
    clear h hB hk e0
    go_enter Try.func55, Try.ntmps55
    go_wp2_with (fail)
    refine cr.mono ?_
    rintro e w' ⟨rfl, rfl⟩
    go_wp2_with (fail)
    refine cm.mono ?_
    rintro e w3 ⟨rfl, b3⟩
    go_wp2_with (fail)
    go_ret2
    exact ⟨rfl, b3⟩
  · rw [if_neg e0, if_neg e0]
    obtain ⟨E, hE⟩ : ∃ e, rhE n R s = e := ⟨_, rfl⟩
    rw [hE] at cr e0 ⊢
    have eb : (E != 0) = true := by rw [bne_iff_ne]; exact e0
    have ec : (E == 0) = false := by rw [beq_eq_false_iff_ne]; exact e0
    clear h hB hk hE
    go_enter Try.func55, Try.ntmps55
    go_wp2_with (fail)
    refine cr.mono ?_
    rintro e w' ⟨rfl, rfl⟩
    go_wp2_with (fail)
    go_ret2
    exact ⟨rfl, Below.refl _ _⟩
theorem rt_arm (h : RA w S w1 k n R) (a : Int) : Calls Try.prog 45 #[.pointer (some ⟨k, 0, none⟩), .int .i64 a] w1 (RDoes w S w1 k n (arR R a) (.int .i64 (arE a))) := by
  unfold arR arE
  by_cases e : arOk a = true
  · rw [if_pos e, if_pos e]
    unfold arOk at e
    rw [Bool.and_eq_true, decide_eq_true_iff, decide_eq_true_iff] at e
    exact (rs_arm h a e).mono fun _ w' ⟨S', he, hs, hr⟩ => ⟨he, S', hs, hr⟩
  · rw [if_neg e, if_neg e]
    unfold arOk at e
    by_cases h0 : a < 0
    · have t1 : decide (a < 0) = true := decide_eq_true h0
      have hH := Lib.hid h
      clear h e h0
      go_enter Try.func45, Try.ntmps45
      go_wp2_with (fail)
      go_ret
      exact ⟨rfl, S, Stp.refl _ _, hH.out⟩
    · have t1 : decide (a < 0) = false := decide_eq_false h0
      have t2 : decide ((1099511627776 : Int) < a) = true := by
        refine decide_eq_true ?_
        rw [decide_eq_true (by omega : 0 ≤ a), Bool.true_and, decide_eq_true_iff] at e
        omega
      have hH := Lib.hid h
      clear h e h0
      go_enter Try.func45, Try.ntmps45
      go_wp2_with (fail)
      go_ret
      exact ⟨rfl, S, Stp.refl _ _, hH.out⟩
theorem rt_restart (h : RA w S w1 k n R) (vv : Value) (l : List (Value × List Int)) (hc : ChR w1 vv l) (ha : ChA vv l S) (hln : l.length ≤ 140737488355328) (hk : ROk n R 1000000000000) :
    Calls Try.prog 47 #[.pointer (some ⟨k, 0, none⟩), vv] w1 (RDoes w S w1 k n (reR R l) (.tuple #[])) :=
  (rs_restart h vv l hc ha hln (fun i hi => hk.2.2 i hi)).mono fun e w' ⟨he, hs, hr⟩ => ⟨he, S, hs, hr⟩
theorem rt_fail (h : RA w S w1 k n R) (s : Int) :
    Calls Try.prog 49 #[.pointer (some ⟨k, 0, none⟩), .int .i64 s] w1 (RDoes w S w1 k n (upR n R s faM) (.bool (hasK n s))) := by
  unfold upR
  rcases hasK_or n s with h1 | ⟨i, rfl, h2, h3⟩
  · rw [if_neg (by rw [h1]; simp)]
    obtain ⟨Λ, hB⟩ := h.h
    have ch := hask_any hB s
    rw [h1] at ch ⊢
    have hH := Lib.hid h
    clear h hB h1
    go_enter Try.func49, Try.ntmps49
    go_wp2_with (fail)
    refine ch.mono ?_
    rintro e w' ⟨rfl, rfl⟩
    go_wp2_with (fail)
    refine ch.mono ?_
    rintro e w' ⟨rfl, rfl⟩
    go_wp2_with (fail)
    go_ret
    exact ⟨rfl, S, Stp.refl _ _, hH.out⟩
  · rw [if_pos h3, h3, Int.toNat_natCast]
    exact (rs_fail h i h2).mono fun e w' ⟨S', he, hs, hr⟩ => ⟨he, S', hs, hr⟩
theorem rt_blank (h : RA w S w1 k n R) (s : Int) :
    Calls Try.prog 51 #[.pointer (some ⟨k, 0, none⟩), .int .i64 s] w1 (RDoes w S w1 k n (upR n R s blM) (.bool (hasK n s))) := by
  unfold upR
  rcases hasK_or n s with h1 | ⟨i, rfl, h2, h3⟩
  · rw [if_neg (by rw [h1]; simp)]
    obtain ⟨Λ, hB⟩ := h.h
    have ch := hask_any hB s
    rw [h1] at ch ⊢
    have hH := Lib.hid h
    clear h hB h1
    go_enter Try.func51, Try.ntmps51
    go_wp2_with (fail)
    refine ch.mono ?_
    rintro e w' ⟨rfl, rfl⟩
    go_wp2_with (fail)
    refine ch.mono ?_
    rintro e w' ⟨rfl, rfl⟩
    go_wp2_with (fail)
    go_ret
    exact ⟨rfl, S, Stp.refl _ _, hH.out⟩
  · rw [if_pos h3, h3, Int.toNat_natCast]
    exact (rs_blank h i h2).mono fun e w' ⟨S', he, hs, hr⟩ => ⟨he, S', hs, hr⟩
theorem rt_rot (h : RA w S w1 k n R) (s a j b : Int) (haI : In64 a) :
    Calls Try.prog 53 #[.pointer (some ⟨k, 0, none⟩), .int .i64 s, .int .i64 a, .int .i64 j, .int .i64 b] w1 (RDoes w S w1 k n (upR n R s fun M => roM M a j b) (.bool (roRB n R s a j b))) := by
  unfold upR roRB
  rcases hasK_or n s with h1 | ⟨i, rfl, h2, h3⟩
  · rw [if_neg (by rw [h1]; simp), h1, Bool.false_and]
    obtain ⟨Λ, hB⟩ := h.h
    have ch := hask_any hB s
    rw [h1] at ch
    have hH := Lib.hid h
    clear h hB h1
    go_enter Try.func53, Try.ntmps53
    go_wp2_with (fail)
    refine ch.mono ?_
    rintro e w' ⟨rfl, rfl⟩
    go_wp2_with (fail)
    go_ret
    exact ⟨rfl, S, Stp.refl _ _, hH.out⟩
  · rw [if_pos h3, h3, Int.toNat_natCast, Bool.true_and]
    unfold roM
    dsimp only
    cases hr : rotB (R.M i).fd (R.M i).L (R.M i).V a j b with
    | false =>
      rw [if_neg Bool.false_ne_true, upd_self]
      exact (rs_rotn h i h2 a j b haI hr).mono fun e w' ⟨he, hw⟩ => by subst hw; exact ⟨he, S, Stp.refl _ _, h⟩
    | true =>
      rw [if_pos rfl]
      obtain ⟨h0, a', j', b', rfl, rfl, rfl, h5, h6, h7⟩ := rotB_nat hr
      rw [Int.toNat_natCast, Int.toNat_natCast, Int.toNat_natCast, List.getD_eq_getElem?_getD, List.getElem?_eq_getElem h5]
      exact (rs_rot h i h2 a' j' b' hr h5 h6 h7).mono fun e w' ⟨S', he, hs, hr⟩ => ⟨he, S', hs, hr⟩
theorem rt_alive (h : RA w S w1 k n R) (s : Int) : Calls Try.prog 57 #[.pointer (some ⟨k, 0, none⟩), .int .i64 s] w1 fun e w' => e = .returned (.bool (alR n R s)) ∧ w1 = w' := by
  unfold alR
  rcases hasK_or n s with h1 | ⟨i, rfl, h2, h3⟩
  · rw [h1, Bool.false_and]
    obtain ⟨Λ, hB⟩ := h.h
    have ch := hask_any hB s
    rw [h1] at ch
    clear h hB h1
    go_enter Try.func57, Try.ntmps57
    go_wp2_with (fail)
    refine ch.mono ?_
    rintro e w' ⟨rfl, rfl⟩
    go_wp2_with (fail)
    go_ret
    exact ⟨rfl, rfl⟩
  · rw [h3, Int.toNat_natCast, Bool.true_and]
    exact rs_alive h i h2
theorem rt_image (h : RA w S w1 k n R) (s : Int) : Calls Try.prog 61 #[.pointer (some ⟨k, 0, none⟩), .int .i64 s] w1 (GivesQ w1 (imR n R s)) := by
  unfold imR
  rcases hasK_or n s with h1 | ⟨i, rfl, h2, h3⟩
  · rw [if_neg (by rw [h1]; simp)]
    obtain ⟨Λ, hB⟩ := h.h
    have ch := hask_any hB s
    rw [h1] at ch
    clear h hB h1
    go_enter Try.func61, Try.ntmps61
    go_wp2_with (fail)
    refine ch.mono ?_
    rintro e w' ⟨rfl, rfl⟩
    go_wp2_with (fail)
    go_ret
    exact ⟨_, rfl, Below.refl _ _, Own.nil _ _ _⟩
  · rw [if_pos h3, Int.toNat_natCast]
    unfold imL
    obtain ⟨st, hst⟩ : ∃ st, R.M i = st := ⟨_, rfl⟩
    obtain ⟨fd, L, V⟩ := st
    rw [hst]
    cases fd with
    | true => exact (rs_imaged h i h2 hst).mono fun e w' ⟨he, hw⟩ => by subst hw; exact ⟨_, he, Below.refl _ _, Own.nil _ _ _⟩
    | false => exact (rs_image h i h2 hst).mono fun e w' ⟨x, he, hb, ho⟩ => ⟨_, he, hb, ho⟩
theorem rt_pending (h : RA w S w1 k n R) (s : Int) : Calls Try.prog 59 #[.pointer (some ⟨k, 0, none⟩), .int .i64 s] w1 fun e w' => e = .returned (.int .i64 (peR n R s)) ∧ Below w1.heap.size w1 w' := by
  unfold peR
  rcases hasK_or n s with h1 | ⟨i, rfl, h2, h3⟩
  · rw [if_neg (by rw [h1]; simp)]
    obtain ⟨Λ, hB⟩ := h.h
    have ch := hask_any hB s
    rw [h1] at ch
    clear h hB h1
    go_enter Try.func59, Try.ntmps59
    go_wp2_with (fail)
    refine ch.mono ?_
    rintro e w' ⟨rfl, rfl⟩
    go_wp2_with (fail)
    go_ret
    exact ⟨rfl, Below.refl _ _⟩
  · rw [if_pos h3, Int.toNat_natCast]
    exact rs_pend h i h2
end
end Go.Proofs.Ytofhmdbilhdblaa
