/- the document's rack in memory. -/
import Derived.Test.YtofhmdbilhdblaaRackTot
namespace Go.Proofs.Ytofhmdbilhdblaa
open Go.RowKit
set_option linter.unusedVariables false
set_option linter.unusedSimpArgs false
set_option maxRecDepth 100000

def QB (w : World) (T : Nat → Prop) (m : Nat) (M : Mst) : Prop := ∃ q cap F, QBox w T m q cap M.fd M.L M.V F
theorem QB.heap {w w' : World} {T : Nat → Prop} {m : Nat} {M : Mst} (h : QB w T m M) (e : ∀ k, T k → w'.heap[k]? = w.heap[k]?) (hs : w.heap.size ≤ w'.heap.size) : QB w' T m M := by
  obtain ⟨q, cap, F, h⟩ := h; exact ⟨q, cap, F, h.heap e hs⟩
theorem QB.lt {w : World} {T : Nat → Prop} {m : Nat} {M : Mst} (h : QB w T m M) : ∀ k, T k → k < w.heap.size := by
  obtain ⟨q, cap, F, h⟩ := h; exact h.lt
/-- A rack of the document in memory. -/
structure KBox (w : World) (S : Nat → Prop) (k n q cap : Nat) (T : Nat → Nat → Prop) (mm : Nat → Nat) (M : Nat → Mst) (sec acts ar : Int) (off : Bool) : Prop where
  b : w.heap[k]? = some (.cells #[.slice (some ⟨q, 0, none⟩) n cap, .int .i64 sec, .int .i64 acts, .int .i64 ar, .bool off] 95 (0, 0))
  l : Own w 0 28 (.slice (some ⟨q, 0, none⟩) n cap) (rowV n fun i => .pointer (some ⟨mm i, 0, none⟩))
  p : ∀ i, i < n → QB w (T i) (mm i) (M i)
  dj : ∀ i j x, i < n → j < n → i ≠ j → T i x → ¬ T j x
  tS : ∀ i x, i < n → T i x → S x ∧ x ≠ k ∧ x ≠ q
  sk : S k
  sq : S q
  kq : k ≠ q
  lt : ∀ x, S x → x < w.heap.size
  n1 : 1 ≤ n
  n7 : n ≤ 7
section
variable {w w' : World} {S : Nat → Prop} {k n q cap : Nat} {T : Nat → Nat → Prop} {mm : Nat → Nat} {M : Nat → Mst} {sec acts ar : Int} {off : Bool}
theorem KBox.heap (h : KBox w S k n q cap T mm M sec acts ar off) (e : ∀ x, S x → w'.heap[x]? = w.heap[x]?) (hs : w.heap.size ≤ w'.heap.size) : KBox w' S k n q cap T mm M sec acts ar off :=
  ⟨(e k h.sk).trans h.b, h.l.sameBlock (e _ h.sq), fun i hi => (h.p i hi).heap (fun x hx => e x (h.tS i x hi hx).1) hs, h.dj, h.tS, h.sk, h.sq, h.kq, fun x hx => Nat.lt_of_lt_of_le (h.lt x hx) hs, h.n1, h.n7⟩
theorem KBox.below (h : KBox w S k n q cap T mm M sec acts ar off) (hb : Below w.heap.size w w') : KBox w' S k n q cap T mm M sec acts ar off := h.heap (fun x hx => hb.block x (h.lt x hx)) hb.size
theorem KBox.c0 (h : KBox w S k n q cap T mm M sec acts ar off) : w.cell? ⟨k, 0, none⟩ = some (.slice (some ⟨q, 0, none⟩) n cap) := by simp [World.cell?, h.b]
theorem KBox.c1 (h : KBox w S k n q cap T mm M sec acts ar off) : w.cell? ⟨k, 1, none⟩ = some (.int .i64 sec) := by simp [World.cell?, h.b]
theorem KBox.c2 (h : KBox w S k n q cap T mm M sec acts ar off) : w.cell? ⟨k, 2, none⟩ = some (.int .i64 acts) := by simp [World.cell?, h.b]
theorem KBox.c3 (h : KBox w S k n q cap T mm M sec acts ar off) : w.cell? ⟨k, 3, none⟩ = some (.int .i64 ar) := by simp [World.cell?, h.b]
theorem KBox.c4 (h : KBox w S k n q cap T mm M sec acts ar off) : w.cell? ⟨k, 4, none⟩ = some (.bool off) := by simp [World.cell?, h.b]
theorem KBox.f (h : KBox w S k n q cap T mm M sec acts ar off) (o : Nat) : w.frozen? ⟨k, o, none⟩ = false := by simp [World.frozen?, h.b]
theorem KBox.slot (h : KBox w S k n q cap T mm M sec acts ar off) {i : Nat} (hi : i < n) : w.cell? ⟨q, i, none⟩ = some (.pointer (some ⟨mm i, 0, none⟩)) := by
  rw [h.l.cell (i := i) (by rw [rowV_len]; exact hi), rowV_get _ _ _ hi]
theorem KBox.len (h : KBox w S k n q cap T mm M sec acts ar off) (W : World) : (Builtin.len_ #[93] 3 #[.slice (some ⟨q, 0, none⟩) n cap]).run Try.prog W = .ok (.int .i64 (n : Int)) W := by
  have := h.l.reads.len_run (P := Try.prog) Try.underlying93 3 W
  rw [rowV_len] at this; exact this
theorem KBox.congr (h : KBox w S k n q cap T mm M sec acts ar off) {M' : Nat → Mst} (e : ∀ i, i < n → M' i = M i) : KBox w S k n q cap T mm M' sec acts ar off :=
  ⟨h.b, h.l, fun i hi => by rw [e i hi]; exact h.p i hi, h.dj, h.tS, h.sk, h.sq, h.kq, h.lt, h.n1, h.n7⟩
/-- A cell of the rack's own is set. -/
theorem KBox.setK (h : KBox w S k n q cap T mm M sec acts ar off) (o : Nat) (u : Value) (acts' ar' : Int) (off' : Bool)
    (e : (#[.slice (some ⟨q, 0, none⟩) n cap, .int .i64 sec, .int .i64 acts, .int .i64 ar, .bool off] : Array Value).setIfInBounds o u = #[.slice (some ⟨q, 0, none⟩) n cap, .int .i64 sec, .int .i64 acts', .int .i64 ar', .bool off']) :
    KBox (w.setCell ⟨k, o, none⟩ u) S k n q cap T mm M sec acts' ar' off' ∧ Stp S S w (w.setCell ⟨k, o, none⟩ u) := by
  have k5 : ∀ x, x ≠ k → (w.setCell ⟨k, o, none⟩ u).heap[x]? = w.heap[x]? := fun x hx => Below.heap_setCell _ _ _ _ hx
  have k4 : (w.setCell ⟨k, o, none⟩ u).heap.size = w.heap.size := by simp
  refine ⟨⟨?_, h.l.sameBlock (k5 _ (Ne.symm h.kq)), fun i hi => (h.p i hi).heap (fun x hx => k5 x (h.tS i x hi hx).2.1) (by omega), h.dj, h.tS, h.sk, h.sq, h.kq, fun x hx => by rw [k4]; exact h.lt x hx, h.n1, h.n7⟩, ⟨⟨rfl, rfl, rfl, by omega, fun x hx => absurd hx (Nat.not_lt_zero _)⟩, fun x _ hn => k5 x (fun e => hn (e ▸ h.sk)), fun x hx => .inl hx⟩⟩
  simp [World.setCell, Array.getElem?_modify, h.b, e]
/-- A step of member i. -/
theorem KBox.turn (h : KBox w S k n q cap T mm M sec acts ar off) {i : Nat} (hi : i < n) {T' : Nat → Prop} {st : Mst} (hs : Stp (T i) T' w w') (hp : QB w' T' (mm i) st) :
    ∃ S', Stp S S' w w' ∧ KBox w' S' k n q cap (upd T i T') mm (upd M i st) sec acts ar off := by
  have old : ∀ x, x < w.heap.size → ¬ T i x → w'.heap[x]? = w.heap[x]? := hs.oth
  have kT : ¬ T i k := fun z => (h.tS i k hi z).2.1 rfl
  have qT : ¬ T i q := fun z => (h.tS i _ hi z).2.2 rfl
  have kl := h.lt k h.sk
  have ql := h.lt _ h.sq
  have hsz := hs.b0.size
  refine ⟨fun x => S x ∨ (w.heap.size ≤ x ∧ T' x), ⟨hs.b0, fun x hx hn => old x hx (fun z => hn (h.tS i x hi z).1), fun x hx => hx.imp id And.left⟩,
    ⟨(old k kl kT).trans h.b, h.l.sameBlock (old _ ql qT), fun j hj => ?_, fun a b x ha hb hne hx => ?_, fun j x hj hx => ?_, .inl h.sk, .inl h.sq, h.kq, fun x hx => ?_, h.n1, h.n7⟩⟩
  · by_cases e : j = i
    · subst e
      simp only [upd_same]
      exact hp
    · simp only [upd_other _ _ _ _ e]
      exact (h.p j hj).heap (fun x hx => old x ((h.p j hj).lt x hx) (h.dj j i x hj hi e hx)) hsz
  · have tl : ∀ j, j < n → j ≠ i → ∀ x, T j x → ¬ T' x := fun j hj hne x hx hx' => by
      rcases hs.grow x hx' with z | z
      · exact h.dj j i x hj hi hne hx z
      · have := h.lt x (h.tS j x hj hx).1; omega
    by_cases e : a = i
    · subst e
      rw [upd_same] at hx
      rw [upd_other _ _ _ _ (Ne.symm hne)]
      exact fun z => tl b hb (Ne.symm hne) x z hx
    · rw [upd_other _ _ _ _ e] at hx
      by_cases e2 : b = i
      · subst e2; rw [upd_same]; exact tl a ha e x hx
      · rw [upd_other _ _ _ _ e2]; exact h.dj a b x ha hb hne hx
  · by_cases e : j = i
    · subst e
      rw [upd_same] at hx
      rcases hs.grow x hx with z | z
      · exact ⟨.inl (h.tS j x hj z).1, (h.tS j x hj z).2⟩
      · exact ⟨.inr ⟨z, hx⟩, by omega, by omega⟩
    · rw [upd_other _ _ _ _ e] at hx
      exact ⟨.inl (h.tS j x hj hx).1, (h.tS j x hj hx).2⟩
  · rcases hx with z | z
    · exact Nat.lt_of_lt_of_le (h.lt x z) hsz
    · exact hp.lt x z.2
end
/-- How the two ways to count are one. -/
def ArRel (armed ar acts : Int) : Prop := (armed = 0 ∧ 0 ≤ ar ∧ ar ≤ acts) ∨ (0 < armed ∧ ar = acts + armed)
/-- A rack of the document, made behind w. -/
structure KA (w : World) (S : Nat → Prop) (w' : World) (k n : Nat) (R : Rk) : Prop where
  b : Below w.heap.size w w'
  f : ∀ x, S x → w.heap.size ≤ x
  h : ∃ q cap T mm sec ar, KBox w' S k n q cap T mm R.M sec R.acts ar R.off ∧ ArRel R.armed ar R.acts ∧ ∀ i, i < n → ((R.M i).L.length : Int) = sec
def KDoes (w : World) (S : Nat → Prop) (w1 : World) (k n : Nat) (R : Rk) (u : Value) (e : Ending) (w' : World) : Prop := e = .returned u ∧ ∃ S', Stp S S' w1 w' ∧ KA w S' w' k n R
section
variable {w w1 w2 : World} {S S' T T' : Nat → Prop} {k n : Nat} {R : Rk}
theorem KA.lt (h : KA w S w1 k n R) : ∀ x, S x → x < w1.heap.size := by obtain ⟨q, cap, T, mm, sec, ar, h1, _⟩ := h.h; exact h1.lt
theorem KA.after (h : KA w S w1 k n R) (hb : Below w1.heap.size w1 w2) : KA w S w2 k n R := by
  obtain ⟨q, cap, T, mm, sec, ar, h1, h2, h3⟩ := h.h
  exact ⟨h.b.trans (hb.mono h.b.size), h.f, q, cap, T, mm, sec, ar, h1.below hb, h2, h3⟩
theorem KA.stepR (h : KA w S w1 k n R) (hs : Stp T T' w1 w2) (hT : ∀ k, T k → w.heap.size ≤ k) (hST : ∀ k, S k → ¬ T k) : KA w S w2 k n R ∧ ∀ k, S k → ¬ T' k := by
  obtain ⟨q, cap, Tm, mm, sec, ar, h1, h2, h3⟩ := h.h
  refine ⟨⟨h.b.trans (hs.below hT h.b.size), h.f, q, cap, Tm, mm, sec, ar, h1.heap (fun x hx => hs.oth x (h1.lt x hx) (hST x hx)) hs.b0.size, h2, h3⟩, fun x hx hx2 => ?_⟩
  rcases hs.grow x hx2 with z | z
  · exact hST x hx z
  · have := h1.lt x hx; omega
theorem KA.made (h : KA w S w1 k n R) (hs : Stp S S' w1 w2) {R' : Rk} {q cap : Nat} {Tm : Nat → Nat → Prop} {mm : Nat → Nat} {sec ar : Int} (hp : KBox w2 S' k n q cap Tm mm R'.M sec R'.acts ar R'.off) (hr : ArRel R'.armed ar R'.acts) (hl : ∀ i, i < n → ((R'.M i).L.length : Int) = sec) : KA w S' w2 k n R' :=
  ⟨h.b.trans (hs.below h.f h.b.size), fun x hx => by
    rcases hs.grow x hx with z | z
    · exact h.f x z
    · exact Nat.le_trans h.b.size z, q, cap, Tm, mm, sec, ar, hp, hr, hl⟩
theorem KBox.qa {q cap : Nat} {Tm : Nat → Nat → Prop} {mm : Nat → Nat} {M : Nat → Mst} {sec acts ar : Int} {off : Bool} (hb : Below w.heap.size w w1) (hf : ∀ x, S x → w.heap.size ≤ x) (h : KBox w1 S k n q cap Tm mm M sec acts ar off) {i : Nat} (hi : i < n) : QA w (Tm i) w1 (mm i) (M i) := by
  obtain ⟨q', cap', F, h1⟩ := h.p i hi
  exact ⟨hb, q', cap', F, fun x hx => hf x (h.tS i x hi hx).1, h1⟩
theorem upd_len {M : Nat → Mst} {st : Mst} {sec : Int} {i : Nat} (h : ∀ j, j < n → ((M j).L.length : Int) = sec) (hs : (st.L.length : Int) = sec) : ∀ j, j < n → ((upd M i st j).L.length : Int) = sec := fun j hj => by
  by_cases e : j = i
  · rw [e, upd_same]; exact hs
  · rw [upd_other _ _ _ _ e]; exact h j hj
theorem KBox.does {R' : Rk} (h0 : KA w S w1 k n R) {w3 : World} (hs0 : Stp S S w1 w2) {q cap : Nat} {Tm : Nat → Nat → Prop} {mm : Nat → Nat} {sec ar : Int} (h : KBox w2 S k n q cap Tm mm R'.M sec R'.acts ar R'.off) (hr : ArRel R'.armed ar R'.acts) (hl : ∀ i, i < n → ((R'.M i).L.length : Int) = sec)
    {i : Nat} (hi : i < n) {T' : Nat → Prop} {st : Mst} (hst : st.L.length = (R'.M i).L.length) (hs : Stp (Tm i) T' w2 w3) (hm : QA w T' w3 (mm i) st) :
    ∃ S', Stp S S' w1 w3 ∧ KA w S' w3 k n { R' with M := upd R'.M i st } := by
  obtain ⟨q', cap', F, hf, hp⟩ := QS.h hm
  obtain ⟨S', s4, hB4⟩ := h.turn (st := st) hi hs ⟨q', cap', F, hp⟩
  exact ⟨S', hs0.trans s4, h0.made (R' := { R' with M := upd R'.M i st }) (hs0.trans s4) hB4 hr (upd_len hl (by rw [hst]; exact hl i hi))⟩
end
theorem khas_any {w : World} {S : Nat → Prop} {k n q cap : Nat} {T : Nat → Nat → Prop} {mm : Nat → Nat} {M : Nat → Mst} {sec acts ar : Int} {off : Bool} (h : KBox w S k n q cap T mm M sec acts ar off) (s : Int) :
    Calls Try.prog 75 #[.pointer (some ⟨k, 0, none⟩), .int .i64 s] w fun e w' => e = .returned (.bool (hasK n s)) ∧ w = w' := by
  have c0 := h.c0
  have hl := h.len
  clear h
  unfold hasK
  by_cases h0 : 0 ≤ s
  · have t1 : decide (0 ≤ s) = true := decide_eq_true h0
    clear h0
    rw [t1, Bool.true_and]
    go_enter Try.func75, Try.ntmps75
    go_wp2
    go_ret
    exact ⟨rfl, rfl⟩
  · have t1 : decide (0 ≤ s) = false := decide_eq_false h0
    clear h0
    rw [t1, Bool.false_and]
    go_enter Try.func75, Try.ntmps75
    go_wp2
    go_ret
    exact ⟨rfl, rfl⟩
section
variable {w w1 : World} {S : Nat → Prop} {k n q cap : Nat} {T : Nat → Nat → Prop} {mm : Nat → Nat} {sec ar : Int} {R : Rk}
theorem kreach (hB : KBox w1 S k n q cap T mm R.M sec R.acts ar R.off) (s : Int) :
    Calls Try.prog 73 #[.pointer (some ⟨k, 0, none⟩), .int .i64 s, .bool false] w1 fun e w' => e = .returned (.int .i64 (rhE n R s)) ∧ w1 = w' := by
  obtain ⟨M, off, acts, armed⟩ := R
  unfold rhE
  have ch := khas_any hB s
  have c4 := hB.c4
  dsimp only at c4 ⊢
  clear hB
  cases hh : hasK n s with
  | false =>
    rw [hh] at ch
    rw [if_neg Bool.false_ne_true]
    clear hh
    go_enter Try.func73, Try.ntmps73
    go_wp2_with (fail)
    refine ch.mono ?_
    rintro e w' ⟨rfl, rfl⟩
    go_wp2_with (fail)
    go_ret
    exact ⟨rfl, rfl⟩
  | true =>
    rw [hh] at ch
    rw [if_pos rfl]
    clear hh
    cases off with
    | true =>
      rw [if_pos rfl]
      go_enter Try.func73, Try.ntmps73
      go_wp2_with (fail)
      refine ch.mono ?_
      rintro e w' ⟨rfl, rfl⟩
      go_wp2_with (fail)
      go_ret
      exact ⟨rfl, rfl⟩
    | false =>
      rw [if_neg Bool.false_ne_true]
      go_enter Try.func73, Try.ntmps73
      go_wp2_with (fail)
      refine ch.mono ?_
      rintro e w' ⟨rfl, rfl⟩
      go_wp2_with (fail)
      go_ret
      exact ⟨rfl, rfl⟩
/-- What an act leaves. -/
def KAct (w1 : World) (S : Nat → Prop) (k n q cap : Nat) (T : Nat → Nat → Prop) (mm : Nat → Nat) (R : Rk) (sec ar : Int) (E : Int) (e : Ending) (w' : World) : Prop :=
  e = .returned (.int .i64 E) ∧ Stp S S w1 w' ∧ KBox w' S k n q cap T mm R.M sec R.acts ar R.off ∧ ArRel R.armed ar R.acts
set_option maxHeartbeats 1000000 in
theorem kact (hB : KBox w1 S k n q cap T mm R.M sec R.acts ar R.off) (s : Int) (hr : ArRel R.armed ar R.acts) (hk : ROk n R 1000000000000) :
    Calls Try.prog 73 #[.pointer (some ⟨k, 0, none⟩), .int .i64 s, .bool true] w1 (KAct w1 S k n q cap T mm (akR n R s) sec ar (akE n R s)) := by
  obtain ⟨M, off, acts, armed⟩ := R
  unfold akE akR
  have ch := khas_any hB s
  obtain ⟨⟨ha1, ha2⟩, ⟨hm1, hm2⟩, _⟩ := hk
  dsimp only at ha1 ha2 hm1 hm2 hB hr ⊢
  have c4 := hB.c4
  cases hh : hasK n s with
  | false =>
    rw [hh] at ch
    rw [if_neg Bool.false_ne_true, if_neg (fun x => Bool.false_ne_true x.1)]
    have hfin := Lib.hid (And.intro hB hr)
    clear hh hB hr ha1 ha2 hm1 hm2
    go_enter Try.func73, Try.ntmps73
    go_wp2_with (fail)
    refine ch.mono ?_
    rintro e w' ⟨rfl, rfl⟩
    go_wp2_with (fail)
    go_ret
    exact ⟨rfl, Stp.refl _ _, hfin.out⟩
  | true =>
    rw [hh] at ch
    rw [if_pos rfl]
    clear hh
    cases off with
    | true =>
      rw [if_pos rfl, if_neg (fun x => Bool.noConfusion x.2)]
      have hfin := Lib.hid (And.intro hB hr)
      clear hB hr ha1 ha2 hm1 hm2
      go_enter Try.func73, Try.ntmps73
      go_wp2_with (fail)
      refine ch.mono ?_
      rintro e w' ⟨rfl, rfl⟩
      go_wp2_with (fail)
      go_ret
      exact ⟨rfl, Stp.refl _ _, hfin.out⟩
    | false =>
      rw [if_neg Bool.false_ne_true, if_pos (And.intro rfl rfl)]
      have c2 := hB.c2
      have f2 := hB.f 2
      have wa : IntKind.i64.wrap (acts + 1) = acts + 1 := wrap_in (by omega) (by omega)
      obtain ⟨h1, s1⟩ := hB.setK 2 (.int .i64 (acts + 1)) (acts + 1) ar false rfl
      have c21 := h1.c2
      have c31 := h1.c3
      by_cases e1 : armed = 1
      · have hra : ar = acts + 1 := by rcases hr with ⟨h, _, _⟩ | ⟨_, h⟩ <;> omega
        have t1 : (acts + 1 == ar) = true := by rw [hra]; exact beq_self_eq_true _
        rw [if_pos e1, decide_eq_true e1]
        have hn : nxt armed = 0 := by rw [e1]; rfl
        have f41 := h1.f 4
        have c41 := h1.c4
        have hfin : Hid (∀ m, Stp S S w1 (((w1.setCell ⟨k, 2, none⟩ (.int .i64 (acts + 1))).drewN m).setCell ⟨k, 4, none⟩ (.bool true)) ∧ KBox (((w1.setCell ⟨k, 2, none⟩ (.int .i64 (acts + 1))).drewN m).setCell ⟨k, 4, none⟩ (.bool true)) S k n q cap T mm M sec (acts + 1) ar true ∧ ArRel (nxt armed) ar (acts + 1)) :=
          Lib.hid fun m => by
            obtain ⟨h2, s2⟩ := (h1.heap (w' := (w1.setCell ⟨k, 2, none⟩ (.int .i64 (acts + 1))).drewN m) (fun _ _ => rfl) (Nat.le_refl _)).setK 4 (.bool true) (acts + 1) ar true rfl
            exact ⟨(s1.trans (Stp.quiet (belowN (Below.refl _ _) m))).trans s2, h2, .inl ⟨hn, by omega, by omega⟩⟩
        clear hB hr h1 s1 ha1 ha2 hm1 hm2 hn e1 hra
        go_enter Try.func73, Try.ntmps73
        go_wp2_with (fail)
        refine ch.mono ?_
        rintro e w' ⟨rfl, rfl⟩
        go_wp2_with (fail)
        go_quiet (fail)
        go_wp2_with (fail)
        go_ret
        exact ⟨rfl, hfin.out _⟩
      · have hra : ar ≠ acts + 1 := by rcases hr with ⟨h, h2, h3⟩ | ⟨h2, h⟩ <;> omega
        have t1 : (acts + 1 == ar) = false := by rw [beq_eq_false_iff_ne]; exact fun e => hra e.symm
        rw [if_neg e1, decide_eq_false e1]
        have hr2 : ArRel (nxt armed) ar (acts + 1) := by
          unfold nxt
          rcases hr with ⟨h, h2, h3⟩ | ⟨h2, h⟩
          · rw [if_pos h]; exact .inl ⟨rfl, h2, by omega⟩
          · rw [if_neg (by omega)]; exact .inr ⟨by omega, by omega⟩
        have hfin : Hid (∀ m, Stp S S w1 ((w1.setCell ⟨k, 2, none⟩ (.int .i64 (acts + 1))).drewN m) ∧ KBox ((w1.setCell ⟨k, 2, none⟩ (.int .i64 (acts + 1))).drewN m) S k n q cap T mm M sec (acts + 1) ar false ∧ ArRel (nxt armed) ar (acts + 1)) :=
          Lib.hid fun m => ⟨s1.trans (Stp.quiet (belowN (Below.refl _ _) m)), h1.heap (fun _ _ => rfl) (Nat.le_refl _), hr2⟩
        clear hB hr h1 s1 ha1 ha2 hm1 hm2 e1 hra hr2
        go_enter Try.func73, Try.ntmps73
        go_wp2_with (fail)
        refine ch.mono ?_
        rintro e w' ⟨rfl, rfl⟩
        go_wp2_with (fail)
        go_quiet (fail)
        go_wp2_with (fail)
        go_ret
        exact ⟨rfl, hfin.out _⟩
end
end Go.Proofs.Ytofhmdbilhdblaa
