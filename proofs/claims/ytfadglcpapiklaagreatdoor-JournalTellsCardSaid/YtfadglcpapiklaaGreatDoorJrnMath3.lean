/- journal: what is told of bays. -/
import Derived.Test.YtfadglcpapiklaaGreatDoorJrnMath2
import Derived.Test.YtfadglcpapiklaaGreatDoorJrnLast
import Derived.Test.YtfadglcpapiklaaGreatDoorLrecc
namespace Go.Proofs.YtfadglcpapiklaaGreatDoor
open Go.RowKit
open Rc
set_option linter.unusedVariables false
set_option linter.unusedSimpArgs false
set_option maxRecDepth 100000

theorem pad_app {p : ByteArray} (h : p.size ≤ 120) : ∃ t, padB p 120 = p ++ t ∧ zeroB t = true := by
  refine ⟨lineOf (List.replicate (120 - p.data.toList.length) 0), ?_, ?_⟩
  · unfold padB Pk.padL
    apply ByteArray.ext
    simp [lineOf]
  · unfold zeroB lineOf
    simp
theorem right_g {K M B q : Int} {ss : List St} (h : rightB K M B q ss = true) : gR K M B = true ∧ 1 ≤ q ∧ q ≤ 1099511627776 := by
  unfold rightB ordB at h
  simp only [Bool.and_eq_true, decide_eq_true_eq] at h
  exact ⟨h.1.1, h.1.2.1⟩
section
variable {n sec i j a : Nat} {R : Rk} {K M B q : Int} {ss : List St}
theorem top_holds12 (hoff : R.off = false) (hj : j < n) (hal : (R.M j).fd = false) {c : Nat} (hc : c < (R.M j).L.length) : Holds n R (j : Int) (c : Int) (topM (R.M j) c) :=
  holds_of hoff ⟨by omega, by omega⟩ (by rw [Int.toNat_natCast]; exact hal) (by rw [Int.toNat_natCast]; exact hc) (by rw [Int.toNat_natCast]; rfl)
theorem dead_shut (hoff : R.off = false) (hj : j < n) (hd : (R.M j).fd = true) (id c : Int) : srB n R id (j : Int) c = false := by
  refine sr_dead ?_
  unfold rdRE
  rw [if_pos (rhE_well hoff ⟨by omega, by omega⟩), Int.toNat_natCast]
  unfold rdE
  rw [if_pos hd]; decide
/-- A member has a record whole in a bay. -/
structure Bay (Mm : Mst) (i j a : Nat) (h : ByteArray) (b : List ByteArray) : Prop where
  al : Mm.fd = false
  h : topM Mm a = secS i j a h
  b : ∀ k, k < b.length → topM Mm (a + 1 + k) = secS i j (a + 1 + k) (b.getD k ⟨#[]⟩)
/-- Numbers that a record's place meets. -/
structure Plc (n sec i a : Nat) (K M B q : Int) (ss : List St) : Prop where
  r : rightB K M B q ss = true
  i1 : 1 ≤ i
  i2 : i ≤ 65535
  n7 : n ≤ 7
  s : sec ≤ 256
  sz : a + 1 + (allT ss).length ≤ sec
  g : gHead K M B q = (a : Int)
theorem Plc.hz (h : Plc n sec i a K M B q ss) : (layS q ss).size ≤ 120 := by
  have h1 := lay_size (right_ord h.r)
  have h2 := (right_f h.r).n
  omega
theorem Plc.bz (h : Plc n sec i a K M B q ss) : ∀ t ∈ allT ss, t.size = 120 := (lay_small h.r).2.2.1
theorem Plc.ne (h : Plc n sec i a K M B q ss) : allT ss ≠ [] := fun e => by
  have hf := right_f h.r
  have hk : ∀ s ∈ ss, s.d.length = K.toNat := fun s hs => by have := hf.d s hs; omega
  have := allT_len hk
  rw [e, List.length_nil] at this
  have h1 := hf.n
  have h2 := hf.k
  have : 1 * 1 ≤ ss.length * K.toNat := Nat.mul_le_mul h1.1 (by omega)
  omega
theorem Plc.laid (h : Plc n sec i a K M B q ss) : Laid K M B q ss (padB (layS q ss) 120) := by
  obtain ⟨t, e, hz⟩ := pad_app h.hz
  rw [e]
  exact Go.Proofs.YtfadglcpapiklaaGreatDoor.laid (right_ord h.r) hz
theorem Plc.c (h : Plc n sec i a K M B q ss) : lkC K (padB (layS q ss) 120) = (allT ss).length := by
  have hf := right_f h.r
  have hk : ∀ s ∈ ss, s.d.length = K.toNat := fun s hs => by have := hf.d s hs; omega
  unfold lkC
  rw [h.laid.s, List.length_map, allT_len hk]
theorem Plc.head (h : Plc n sec i a K M B q ss) (hj : j < n) (hoff : R.off = false) (hl : (R.M j).L.length = sec) (hal : (R.M j).fd = false) (ht : topM (R.M j) a = secS i j a (layS q ss)) : srB n R (i : Int) (j : Int) (a : Int) = true ∧ srS n R (i : Int) (j : Int) (a : Int) = padB (layS q ss) 120 := by
  have ha := h.sz
  have hs := h.s
  have hn := h.n7
  have hH := top_holds12 hoff hj hal (c := a) (by omega)
  rw [ht] at hH
  exact sr_padded (by omega) ⟨h.i1, h.i2, by rw [Int.toNat_natCast]; omega, by omega, h.hz⟩ (by rw [Int.toNat_natCast]; exact hH)
/-- A bay that has a record whole tells it. -/
theorem look_bay (h : Plc n sec i a K M B q ss) (hj : j < n) (hoff : R.off = false) (hl : (R.M j).L.length = sec) (hB : Bay (R.M j) i j a (layS q ss) (allT ss)) : lkM n R (i : Int) K M B (j : Int) (a : Int) = (padB (layS q ss) 120, allT ss, true) := by
  have ha := h.sz
  have hs := h.s
  have hn := h.n7
  obtain ⟨h1, h2⟩ := h.head hj hoff hl hB.al hB.h
  have hL := h.laid
  have hb : ∀ k, k < (allT ss).length → lkB n R (i : Int) (j : Int) (a : Int) k = true ∧ lkT n R (i : Int) (j : Int) (a : Int) k = (allT ss).getD k ⟨#[]⟩ := fun k hk => by
    have hH := top_holds12 hoff hj hB.al (c := a + 1 + k) (by omega)
    rw [hB.b k hk] at hH
    have hz : ((allT ss).getD k ⟨#[]⟩).size = 120 := by
      rw [List.getD_eq_getElem?_getD, List.getElem?_eq_getElem hk]
      exact h.bz _ (List.getElem_mem hk)
    have := sr_padded (x := (j : Int)) (a := a + 1 + k) (by omega) ⟨h.i1, h.i2, by rw [Int.toNat_natCast]; omega, by omega, Nat.le_of_eq hz⟩ (by rw [Int.toNat_natCast]; exact hH)
    rw [pad_id hz] at this
    unfold lkB lkT
    rw [show (a : Int) + 1 + (k : Int) = ((a + 1 + k : Nat) : Int) by omega]
    exact this
  unfold lkM
  rw [if_pos h1, h2, if_pos ⟨hL.t, by rw [hL.q]; exact h.g⟩, h.c, if_pos fun k hk => (hb k hk).1]
  have e : (List.range (allT ss).length).map (lkT n R (i : Int) (j : Int) (a : Int)) = allT ss := by
    apply List.ext_getElem
    · simp
    · intro k h1 h2
      rw [List.getElem_map, List.getElem_range, (hb k h2).2, List.getD_eq_getElem?_getD, List.getElem?_eq_getElem h2]; rfl
  rw [e]
theorem cand_bay (h : Plc n sec i a K M B q ss) (hj : j < n) (hoff : R.off = false) (hl : (R.M j).L.length = sec) (hB : Bay (R.M j) i j a (layS q ss) (allT ss)) : candM K M B (lkM n R (i : Int) K M B (j : Int) (a : Int)) = some (q, ss.map pr) := by
  rw [look_bay h hj hoff hl hB]
  obtain ⟨h1, h2⟩ := laid_take h.r h.laid
  unfold candM
  rw [if_pos h1, h2, h.laid.q]
theorem mark_nil : ¬ hdW ⟨#[]⟩ = markS := by decide
theorem cand_nil (b : List ByteArray) (o : Bool) : candM K M B (⟨#[]⟩, b, o) = none := by
  unfold candM
  have : takeB K M B ⟨#[]⟩ b = false := by unfold takeB; rw [headB_mark mark_nil]; rfl
  rw [if_neg (by rw [this]; decide)]
/-- A bay whose head doesn't open tells nothing. -/
theorem look_shut {id slot at_ : Int} (h : srB n R id slot at_ = false) : lkM n R id K M B slot at_ = (⟨#[]⟩, [], false) := by
  unfold lkM; rw [if_neg (by rw [h]; decide)]
/-- A record that lies in the other one's bay counts not, and is readable. -/
theorem look_other {id slot at_ : Int} (h : srB n R id slot at_ = true) (hn : ¬ (headB K M B (srS n R id slot at_) = true ∧ gHead K M B (hdQ (srS n R id slot at_)) = at_)) : lkM n R id K M B slot at_ = (⟨#[]⟩, [], true) := by
  unfold lkM; rw [if_pos h, if_neg hn]
/-- One sector of the body that doesn't open: nothing is told. -/
theorem look_body {id slot at_ : Int} (h : srB n R id slot at_ = true) (hn : headB K M B (srS n R id slot at_) = true ∧ gHead K M B (hdQ (srS n R id slot at_)) = at_) {k : Nat} (hk : k < lkC K (srS n R id slot at_)) (hb : lkB n R id slot at_ k = false) : lkM n R id K M B slot at_ = (⟨#[]⟩, [], false) := by
  unfold lkM; rw [if_pos h, if_pos hn, if_neg fun z => by have := z k hk; rw [hb] at this; cases this]
/-- Of all that are complete the greatest. -/
theorem better_max (b c : Option RecM) : (betterM b c = none ∧ b = none ∧ c = none) ∨ ∃ y, betterM b c = some y ∧ (b = some y ∨ c = some y) ∧ (∀ z, b = some z → z.1 ≤ y.1) ∧ ∀ z, c = some z → z.1 ≤ y.1 := by
  cases c with
  | none =>
    cases b with
    | none => exact .inl ⟨rfl, rfl, rfl⟩
    | some x => exact .inr ⟨x, rfl, .inl rfl, fun z hz => (by cases hz; exact Int.le_refl _), fun z hz => (by cases hz)⟩
  | some y =>
    cases b with
    | none => exact .inr ⟨y, rfl, .inr rfl, fun z hz => (by cases hz), fun z hz => (by cases hz; exact Int.le_refl _)⟩
    | some x =>
      by_cases hgt : y.1 > x.1
      · exact .inr ⟨y, if_pos hgt, .inr rfl, fun z hz => (by cases hz; omega), fun z hz => (by cases hz; exact Int.le_refl _)⟩
      · exact .inr ⟨x, if_neg hgt, .inl rfl, fun z hz => (by cases hz; exact Int.le_refl _), fun z hz => (by cases hz; omega)⟩
/-- What is told is complete somewhere, and none that is has a greater number. -/
def MaxOf (P : RecM → Prop) (b : Option RecM) : Prop := (b = none ∧ ∀ y, ¬ P y) ∨ ∃ y, b = some y ∧ P y ∧ ∀ z, P z → z.1 ≤ y.1
theorem MaxOf.add {P : RecM → Prop} {b c : Option RecM} (h : MaxOf P b) : MaxOf (fun y => P y ∨ c = some y) (betterM b c) := by
  rcases better_max b c with ⟨h1, h2, h3⟩ | ⟨y, h1, h2, h3, h4⟩
  · rcases h with ⟨_, hn⟩ | ⟨y, hy, _⟩
    · exact .inl ⟨h1, fun y hy => by
        rcases hy with z | z
        · exact hn y z
        · rw [h3] at z; cases z⟩
    · rw [h2] at hy; cases hy
  · refine .inr ⟨y, h1, ?_, fun z hz => ?_⟩
    · rcases h2 with z | z
      · rcases h with ⟨hb, _⟩ | ⟨x, hx, hp, _⟩
        · rw [hb] at z; cases z
        · rw [hx] at z; cases z; exact .inl hp
      · exact .inr z
    · rcases hz with hz | hz
      · rcases h with ⟨_, hn⟩ | ⟨x, hx, _, hm⟩
        · exact absurd hz (hn z)
        · exact Int.le_trans (hm z hz) (h3 x hx)
      · exact h4 z hz
theorem best_max (id : Int) : ∀ (l : List Int) (b : Option RecM) (P : RecM → Prop), MaxOf P b → MaxOf (fun y => P y ∨ ∃ x ∈ l, ∃ c, c < 2 ∧ bayM n R id K M B x c = some y) (l.foldl (slotM n R id K M B) b)
  | [], b, P, h => by
    have e : (fun y => P y ∨ ∃ x ∈ ([] : List Int), ∃ c, c < 2 ∧ bayM n R id K M B x c = some y) = P := funext fun y => propext ⟨fun z => z.elim (fun z => z) fun ⟨x, hx, _⟩ => (by cases hx), .inl⟩
    rw [e]; exact h
  | x :: xs, b, P, h => by
    have h1 := (h.add (c := bayM n R id K M B x 0)).add (c := bayM n R id K M B x 1)
    have h2 := best_max id xs _ _ h1
    have e : (fun y => ((P y ∨ bayM n R id K M B x 0 = some y) ∨ bayM n R id K M B x 1 = some y) ∨ ∃ z ∈ xs, ∃ c, c < 2 ∧ bayM n R id K M B z c = some y) = (fun y => P y ∨ ∃ z ∈ x :: xs, ∃ c, c < 2 ∧ bayM n R id K M B z c = some y) := funext fun y => propext ⟨fun z => by
        rcases z with ((z | z) | z) | ⟨u, hu, c, hc, e⟩
        · exact .inl z
        · exact .inr ⟨x, List.mem_cons_self, 0, by omega, z⟩
        · exact .inr ⟨x, List.mem_cons_self, 1, by omega, z⟩
        · exact .inr ⟨u, List.mem_cons_of_mem _ hu, c, hc, e⟩, fun z => by
        rcases z with z | ⟨u, hu, c, hc, e⟩
        · exact .inl (.inl (.inl z))
        · rcases List.mem_cons.1 hu with hu | hu
          · rw [hu] at e
            rcases (by omega : c = 0 ∨ c = 1) with z | z
            · rw [z] at e; exact .inl (.inl (.inr e))
            · rw [z] at e; exact .inl (.inr e)
          · exact .inr ⟨u, hu, c, hc, e⟩⟩
    rw [e] at h2
    exact h2
/-- What Last tells. -/
theorem best_is (id : Int) (l : List Int) : MaxOf (fun y => ∃ x ∈ l, ∃ c, c < 2 ∧ bayM n R id K M B x c = some y) (bestM n R id K M B l) := by
  have := best_max (n := n) (R := R) (K := K) (M := M) (B := B) id l none (fun _ => False) (.inl ⟨rfl, fun _ h => h⟩)
  have e : (fun y => False ∨ ∃ x ∈ l, ∃ c, c < 2 ∧ bayM n R id K M B x c = some y) = (fun y => ∃ x ∈ l, ∃ c, c < 2 ∧ bayM n R id K M B x c = some y) := funext fun y => propext ⟨fun z => z.elim False.elim fun z => z, .inr⟩
  rw [e] at this
  exact this
end
end Go.Proofs.YtfadglcpapiklaaGreatDoor
