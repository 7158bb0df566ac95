/- count: the document's table out of texts. -/
import Derived.Test.YtbfdjlibhinkiaaCntRef2
namespace Go.Proofs.Ytbfdjlibhinkiaa
open Go.RowKit
set_option linter.unusedVariables false
set_option linter.unusedSimpArgs false

theorem layS_size (C : Nat → Nat) (o : Nat) : (layS C o).size = 120 := by
  have := bytesC_len C o
  simpa [layS, lineOf, ByteArray.size] using this
theorem layS_byte (C : Nat → Nat) (o j : Nat) (hj : j < 120) : byteN (layS C o) j = C (o + j) % 256 := by
  unfold byteN
  rw [dif_pos (by rw [layS_size]; exact hj)]
  simp [layS, lineOf, bytesC, ByteArray.getElem_eq_getElem_data]
theorem layS_eq (C : Nat → Nat) (o : Nat) (a : ByteArray) (hs : a.size = 120) (h : ∀ j, j < 120 → C (o + j) = byteN a j) : layS C o = a := by
  apply ByteArray.ext_getElem
  · rw [layS_size, hs]
  · intro j h1 h2
    have e := layS_byte C o j (by rw [layS_size] at h1; exact h1)
    rw [h j (by rw [layS_size] at h1; exact h1)] at e
    have := byteN_le a j
    rw [Nat.mod_eq_of_lt (by omega)] at e
    unfold byteN at e
    rw [dif_pos h1, dif_pos h2] at e
    exact UInt8.toNat.inj e
/-- The byte that stands at i of both texts. -/
def bothN (a c : ByteArray) (i : Nat) : Nat := if i < 120 then byteN a i else byteN c (i - 120)
def okAt (n : Nat) (a c : ByteArray) (i : Nat) : Prop := (i < 3 → bothN a c i = 1) ∧ (n ≤ i → bothN a c i = 0)
theorem ofK_at (a c : ByteArray) (n i : Nat) (h : okAt n a c i) : ofK a c n i = bothN a c i := by
  unfold ofK
  by_cases h3 : i < 3
  · rw [if_pos h3, h.1 h3]
  · rw [if_neg h3]
    by_cases hn : i < n
    · rw [if_pos hn]; rfl
    · rw [if_neg hn, h.2 (by omega)]
theorem ofB_true (n : Nat) (a c : ByteArray) (ha : a.size = 120) (hc : c.size = 120) (h : ∀ i, i < 240 → okAt n a c i) : ofB n a c = true := by
  unfold ofB
  rw [decide_eq_true_eq]
  rw [layS_eq (ofK a c n) 0 a ha fun j hj => by rw [Nat.zero_add, ofK_at _ _ _ _ (h j (by omega)), bothN, if_pos hj],
    layS_eq (ofK a c n) 120 c hc fun j hj => by rw [ofK_at _ _ _ _ (h (120 + j) (by omega)), bothN, if_neg (by omega), Nat.add_sub_cancel_left]]
theorem ofB_size (n : Nat) (a c : ByteArray) (h : a.size ≠ 120 ∨ c.size ≠ 120) : ofB n a c = false := by
  unfold ofB
  rw [decide_eq_false_iff_not]
  intro e
  injection e with e1 e2
  injection e2 with e2 _
  rcases h with h | h
  · exact h (by rw [← e1, layS_size])
  · exact h (by rw [← e2, layS_size])
theorem ofB_at (n : Nat) (a c : ByteArray) (i : Nat) (h8 : 8 ≤ n) (hi : i < 240) (h : ¬ okAt n a c i) : ofB n a c = false := by
  unfold ofB
  rw [decide_eq_false_iff_not]
  intro e
  injection e with e1 e2
  injection e2 with e2 _
  have hb : bothN a c i = ofK a c n i % 256 := by
    unfold bothN
    split
    · rename_i hl
      have := layS_byte (ofK a c n) 0 i hl
      rw [e1, Nat.zero_add] at this; exact this
    · have := layS_byte (ofK a c n) 120 (i - 120) (by omega)
      rw [e2, show 120 + (i - 120) = i by omega] at this; exact this
  refine h ⟨fun h3 => ?_, fun hn => ?_⟩
  · rw [hb]; unfold ofK; rw [if_pos h3]
  · rw [hb]; unfold ofK; rw [if_neg (by omega), if_neg (by omega)]
theorem both_byte (a c : ByteArray) (ha : a.size = 120) (i : Nat) : byteN (a ++ c) i = bothN a c i := by
  unfold bothN byteN
  simp only [ByteArray.size_append]
  by_cases hi : i < 120
  · rw [if_pos hi, dif_pos (by omega), dif_pos (by omega), ByteArray.getElem_append_left (by omega)]
  · rw [if_neg hi]
    by_cases hc : i - 120 < c.size
    · rw [dif_pos (by omega), dif_pos hc, ByteArray.getElem_append_right (by omega)]
      simp only [ha]
    · rw [dif_neg (by omega), dif_neg hc]
end Go.Proofs.Ytbfdjlibhinkiaa
