/- Sectors as texts: what is sealed, what opens. -/
import Derived.Test.YtbiblmpojoglmaaPackMath
import Derived.Test.YtbiblmpojoglmaaCrcMath
namespace Go.Proofs.Ytbiblmpojoglmaa.Sec
open Pk
set_option linter.unusedVariables false
set_option linter.unusedSimpArgs false

/-- What is summed up of a sector. -/
def headL (id slot at_ : Nat) (p : List UInt8) : List UInt8 := padL p 120 ++ be 2 id ++ be 1 slot ++ be 1 at_
def secL (id slot at_ : Nat) (p : List UInt8) : List UInt8 := headL id slot at_ p ++ be 4 (Crc.sum (headL id slot at_ p))
theorem head_length {p : List UInt8} (id slot at_ : Nat) (h : p.length ≤ 120) : (headL id slot at_ p).length = 124 := by
  simp [headL, be_length, pad_length h]
theorem sec_length {p : List UInt8} (id slot at_ : Nat) (h : p.length ≤ 120) : (secL id slot at_ p).length = 128 := by
  simp [secL, be_length, head_length _ _ _ h]
theorem head_take {p : List UInt8} (id slot at_ : Nat) (h : p.length ≤ 120) : (headL id slot at_ p).take 120 = padL p 120 := by
  rw [headL, List.append_assoc, List.append_assoc, List.take_append_of_le_length (by rw [pad_length h]; omega), List.take_of_length_le (by rw [pad_length h]; omega)]
theorem sec_head {p : List UInt8} (id slot at_ : Nat) (h : p.length ≤ 120) : (secL id slot at_ p).take 124 = headL id slot at_ p := by
  rw [secL, List.take_append_of_le_length (by rw [head_length _ _ _ h]; omega), List.take_of_length_le (by rw [head_length _ _ _ h]; omega)]
theorem sec_take {p : List UInt8} (id slot at_ : Nat) (h : p.length ≤ 120) : (secL id slot at_ p).take 120 = padL p 120 := by
  rw [← head_take id slot at_ h, ← sec_head id slot at_ h, List.take_take]; rfl
theorem sec_pad {p : List UInt8} (id slot at_ : Nat) (h : p.length ≤ 120) : secL id slot at_ (padL p 120) = secL id slot at_ p := by
  rw [secL, secL, headL, headL, pad_pad h]
theorem sum_lt (l : List UInt8) : Crc.sum l < 256 ^ 4 := Crc.fin_lt (Crc.go_lt (by decide) l)
theorem head_inj {i j l m a b : Nat} {p q : List UInt8} (hp : p.length ≤ 120) (hq : q.length ≤ 120) (hi : i < 65536) (hj : j < 65536) (hl : l < 256) (hm : m < 256) (ha : a < 256) (hb : b < 256)
    (h : headL i l a p = headL j m b q) : i = j ∧ l = m ∧ a = b ∧ padL p 120 = padL q 120 := by
  unfold headL at h
  obtain ⟨h, h4⟩ := List.append_inj h (by simp [be_length, pad_length hp, pad_length hq])
  obtain ⟨h, h3⟩ := List.append_inj h (by simp [be_length, pad_length hp, pad_length hq])
  obtain ⟨h1, h2⟩ := List.append_inj h (by simp [pad_length hp, pad_length hq])
  exact ⟨be_inj (w := 2) (by omega) (by omega) h2, be_inj (w := 1) (by omega) (by omega) h3, be_inj (w := 1) (by omega) (by omega) h4, h1⟩
theorem sec_inj {i j l m a b : Nat} {p q : List UInt8} (hp : p.length ≤ 120) (hq : q.length ≤ 120) (hi : i < 65536) (hj : j < 65536) (hl : l < 256) (hm : m < 256) (ha : a < 256) (hb : b < 256) :
    secL i l a p = secL j m b q ↔ i = j ∧ l = m ∧ a = b ∧ padL p 120 = padL q 120 := by
  constructor
  · intro h
    have h' := congrArg (List.take 124) h
    rw [sec_head _ _ _ hp, sec_head _ _ _ hq] at h'
    exact head_inj hp hq hi hj hl hm ha hb h'
  · rintro ⟨rfl, rfl, rfl, h⟩
    rw [← sec_pad _ _ _ hp, h, sec_pad _ _ _ hq]
/-- For whom a sealed sector opens. -/
theorem sec_opens {i j l m a b : Nat} {p : List UInt8} (hp : p.length ≤ 120) (hi : i < 65536) (hj : j < 65536) (hl : l < 256) (hm : m < 256) (ha : a < 256) (hb : b < 256) :
    secL j m b ((secL i l a p).take 120) = secL i l a p ↔ j = i ∧ m = l ∧ b = a := by
  rw [sec_take _ _ _ hp, sec_pad _ _ _ hp, sec_inj hp hp hj hi hm hl hb ha]
  exact ⟨fun h => ⟨h.1, h.2.1, h.2.2.1⟩, fun h => ⟨h.1, h.2.1, h.2.2, rfl⟩⟩
theorem byte_bits {a b : UInt8} (h : ∀ k, k < 8 → a.toNat / 2 ^ k % 2 = b.toNat / 2 ^ k % 2) : a = b := by
  rw [← UInt8.toNat_inj]
  apply Nat.eq_of_testBit_eq
  intro k
  rcases Nat.lt_or_ge k 8 with hk | hk
  · rw [Nat.testBit_eq_decide_div_mod_eq, Nat.testBit_eq_decide_div_mod_eq, h k hk]
  · have hp : 256 ≤ 2 ^ k := Nat.le_trans (show 256 ≤ 2 ^ 8 by decide) (Nat.pow_le_pow_right (by decide) hk)
    have h1 := a.toNat_lt
    have h2 := b.toNat_lt
    rw [Nat.testBit_lt_two_pow (Nat.lt_of_lt_of_le h1 hp), Nat.testBit_lt_two_pow (Nat.lt_of_lt_of_le h2 hp)]
/-- A text of which up to four bytes that stand side by side are others has another sum. -/
theorem sum_window {A B : List UInt8} {k : Nat} (hl : A.length = B.length) (hw : ∀ j, j < k ∨ k + 4 ≤ j → A.getD j 0 = B.getD j 0) (h : Crc.sum A = Crc.sum B) : A = B := by
  have e := Crc.fin_inj h
  rw [Crc.go_bits, Crc.go_bits, hl] at e
  have hs := Crc.run_same (a := 8 * k) (by decide) (Crc.bitAt_lt A) (Crc.bitAt_lt B)
    (fun i hi => by unfold Crc.bitAt; rw [hw (i / 8) (.inl (by omega))])
    (fun i hi => by unfold Crc.bitAt; rw [hw (i / 8) (.inr (by omega))]) e
  apply List.ext_getElem hl
  intro j h1 h2
  apply byte_bits
  intro q hq
  have := hs (8 * j + q) (by omega)
  unfold Crc.bitAt at this
  rw [show (8 * j + q) / 8 = j by omega, show (8 * j + q) % 8 = q by omega, List.getD_eq_getElem?_getD, List.getD_eq_getElem?_getD, List.getElem?_eq_getElem h1, List.getElem?_eq_getElem h2] at this
  exact this
/-- A sector that was turned does not open. -/
theorem sec_turned {i l a : Nat} {p T : List UInt8} {k : Nat} (hp : p.length ≤ 120) (hT : T.length = 128) (hk : k ≤ 120 ∨ k = 124)
    (hw : ∀ j, j < k ∨ k + 4 ≤ j → T.getD j 0 = (secL i l a p).getD j 0) (hne : T ≠ secL i l a p) : secL i l a (T.take 120) ≠ T := by
  intro h
  have hS := sec_length i l a hp
  have h20 : (T.take 120).length ≤ 120 := by simp; omega
  have gt : ∀ (X : List UInt8) (n j : Nat), j < n → (X.take n).getD j 0 = X.getD j 0 := fun X n j hj => by
    rw [List.getD_eq_getElem?_getD, List.getElem?_take, if_pos hj, ← List.getD_eq_getElem?_getD]
  rcases hk with hk | rfl
  · have e1 : T.take 124 = headL i l a (T.take 120) := by rw [← sec_head i l a h20, h]
    have e2 : (secL i l a p).take 124 = headL i l a p := sec_head i l a hp
    have d : T.drop 124 = (secL i l a p).drop 124 := by
      apply List.ext_getElem
      · simp [hT, hS]
      · intro j h1 h2
        have h1' : j < 4 := by simp [hT] at h1; omega
        have := hw (124 + j) (.inr (by omega))
        rw [List.getD_eq_getElem?_getD, List.getD_eq_getElem?_getD, List.getElem?_eq_getElem (by omega), List.getElem?_eq_getElem (by omega)] at this
        simpa using this
    have d1 : T.drop 124 = be 4 (Crc.sum (T.take 124)) := by
      have : (secL i l a (T.take 120)).drop 124 = be 4 (Crc.sum (headL i l a (T.take 120))) := by
        rw [secL, List.drop_append_of_le_length (by rw [head_length _ _ _ h20]; omega), List.drop_of_length_le (by rw [head_length _ _ _ h20]; omega), List.nil_append]
      rw [h] at this
      rw [this, e1]
    have d2 : (secL i l a p).drop 124 = be 4 (Crc.sum ((secL i l a p).take 124)) := by
      rw [e2, secL, List.drop_append_of_le_length (by rw [head_length _ _ _ hp]; omega), List.drop_of_length_le (by rw [head_length _ _ _ hp]; omega), List.nil_append]
    rw [d1, d2] at d
    have hs := be_inj (sum_lt _) (sum_lt _) d
    have ht := sum_window (k := k) (by simp [hT, hS]) (fun j hj => by
      rcases Nat.lt_or_ge j 124 with h1 | h1
      · rw [gt _ _ _ h1, gt _ _ _ h1]; exact hw j hj
      · rw [List.getD_eq_getElem?_getD, List.getD_eq_getElem?_getD, List.getElem?_eq_none (by simp; omega), List.getElem?_eq_none (by simp; omega)]) hs
    apply hne
    rw [← List.take_append_drop 124 T, ← List.take_append_drop 124 (secL i l a p), ht, d1, d2, ht]
  · apply hne
    have t : T.take 120 = (secL i l a p).take 120 := by
      apply List.ext_getElem
      · simp [hT, hS]
      · intro j h1 h2
        have h1' : j < 120 := by simp at h1; omega
        have := hw j (.inl (by omega))
        rw [List.getD_eq_getElem?_getD, List.getD_eq_getElem?_getD, List.getElem?_eq_getElem (by omega), List.getElem?_eq_getElem (by omega)] at this
        simpa using this
    rw [← h, t, sec_take _ _ _ hp, sec_pad _ _ _ hp]
end Go.Proofs.Ytbiblmpojoglmaa.Sec
