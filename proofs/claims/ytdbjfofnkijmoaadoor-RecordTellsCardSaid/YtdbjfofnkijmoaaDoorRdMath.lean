/- Readers: what is laid is read, and what is read was laid. -/
import Derived.Test.YtdbjfofnkijmoaaDoorRdRef
import Derived.WideShapes
namespace Go.Proofs.YtdbjfofnkijmoaaDoor
open Go.RowKit
set_option linter.unusedVariables false
set_option linter.unusedSimpArgs false
namespace Rm
theorem size_list (s : ByteArray) : s.size = s.data.toList.length := by simp
theorem ext_list (s : ByteArray) (a b : Nat) : (s.extract a b).data.toList = (s.data.toList.take b).drop a := by
  rw [ByteArray.data_extract, Array.toList_extract]; simp [List.extract_eq_take_drop, List.drop_take]
theorem app_list (s t : ByteArray) : (s ++ t).data.toList = s.data.toList ++ t.data.toList := by simp [ByteArray.data_append]
theorem app_line (s t : ByteArray) : s ++ t = lineOf (s.data.toList ++ t.data.toList) := Go.WideShapes.bytes_inj (by rw [app_list, list_lineOf])
theorem app_nil (s : ByteArray) : s ++ (⟨#[]⟩ : ByteArray) = s := Go.WideShapes.bytes_inj (by rw [app_list]; simp)
theorem nil_app (s : ByteArray) : (⟨#[]⟩ : ByteArray) ++ s = s := Go.WideShapes.bytes_inj (by rw [app_list]; simp)
theorem app_assoc (s t u : ByteArray) : s ++ t ++ u = s ++ (t ++ u) := Go.WideShapes.bytes_inj (by simp only [app_list, List.append_assoc])
theorem split (s : ByteArray) (k : Nat) : s = s.extract 0 k ++ s.extract k s.size := Go.WideShapes.bytes_inj (by
  rw [app_list, ext_list, ext_list, List.drop_zero, List.take_of_length_le (Nat.le_of_eq (size_list s).symm) (l := s.data.toList) (i := s.size), List.take_append_drop])
theorem ext_left (s q : ByteArray) : (s ++ q).extract 0 s.size = s := Go.WideShapes.bytes_inj (by
  rw [ext_list, app_list, List.drop_zero, List.take_left' (size_list s).symm])
theorem ext_right (s q : ByteArray) : (s ++ q).extract s.size (s ++ q).size = q := Go.WideShapes.bytes_inj (by
  rw [ext_list, List.take_of_length_le (Nat.le_of_eq (size_list _).symm), app_list, List.drop_left' (size_list s).symm])
theorem be_size (W n : Nat) : (lineOf (Pk.be W n)).size = W := by rw [lineOf_size, Pk.be_length]
theorem numL_nat (n W : Nat) (h1 : 1 ≤ W) (h2 : W ≤ 7) (h : n < 256 ^ W) : numL (n : Int) (W : Int) = lineOf (Pk.be W n) := by
  have hb : numB (n : Int) (W : Int) = true := by unfold numB; rw [decide_eq_true_eq]; exact ⟨by omega, by omega, by omega, by simpa using h⟩
  rw [numL, if_pos hb, show ((W : Int)).toNat = W by omega, show ((n : Int)).toNat = n by omega]
theorem num_laid (n W : Nat) (q : ByteArray) (h1 : 1 ≤ W) (h7 : W ≤ 7) (h : n < 256 ^ W) :
    okN (lineOf (Pk.be W n) ++ q) false (W : Int) = true ∧ numV (lineOf (Pk.be W n) ++ q) false (W : Int) = n ∧ numR (lineOf (Pk.be W n) ++ q) false (W : Int) = q := by
  have hz := be_size W n
  have hs : (lineOf (Pk.be W n) ++ q).size = W + q.size := by rw [ByteArray.size_append, hz]
  have hb : okN (lineOf (Pk.be W n) ++ q) false (W : Int) = true := by unfold okN; rw [decide_eq_true (by omega)]; rfl
  have e1 := ext_left (lineOf (Pk.be W n)) q
  have e2 := ext_right (lineOf (Pk.be W n)) q
  rw [hz] at e1 e2
  refine ⟨hb, ?_, ?_⟩
  · rw [numV, if_pos hb, Int.toNat_natCast, e1, list_lineOf, Pk.val_be_lt h]
  · rw [numR, if_pos hb, Int.toNat_natCast, e2]
theorem txt_laid (t q : ByteArray) : okT (t ++ q) false (t.size : Int) = true ∧ txtS (t ++ q) false (t.size : Int) = t ∧ txtR (t ++ q) false (t.size : Int) = q := by
  have hs : (t ++ q).size = t.size + q.size := ByteArray.size_append ..
  have hb : okT (t ++ q) false (t.size : Int) = true := by unfold okT; rw [decide_eq_true (by omega)]; rfl
  exact ⟨hb, by rw [txtS, if_pos hb, Int.toNat_natCast, ext_left], by rw [txtR, if_pos hb, Int.toNat_natCast, ext_right]⟩
theorem num_read (s : ByteArray) (bad : Bool) (W : Nat) (h : okN s bad (W : Int) = true) :
    bad = false ∧ 1 ≤ W ∧ W ≤ 7 ∧ numV s bad (W : Int) < 256 ^ W ∧ s = lineOf (Pk.be W (numV s bad (W : Int))) ++ numR s bad (W : Int) := by
  have h' := h
  unfold okN at h'
  rw [Bool.and_eq_true, decide_eq_true_eq] at h'
  obtain ⟨h1, h2, h3, h4⟩ := h'
  have hl : (s.extract 0 W).data.toList.length = W := by rw [← size_list, ByteArray.size_extract]; omega
  have hv : numV s bad (W : Int) = Pk.val (s.extract 0 W).data.toList := by rw [numV, if_pos h, Int.toNat_natCast]
  have hr : numR s bad (W : Int) = s.extract W s.size := by rw [numR, if_pos h, Int.toNat_natCast]
  refine ⟨by cases bad <;> simp at h1 ⊢, by omega, by omega, ?_, ?_⟩
  · have := Pk.val_lt (s.extract 0 W).data.toList
    rw [hl] at this; rw [hv]; exact this
  · have hb := Pk.be_val (s.extract 0 W).data.toList
    rw [hl, ← hv] at hb
    rw [hb, hr, show lineOf (s.extract 0 W).data.toList = s.extract 0 W from rfl]
    exact split s W
theorem txt_read (s : ByteArray) (bad : Bool) (n : Nat) (h : okT s bad (n : Int) = true) : bad = false ∧ (txtS s bad (n : Int)).size = n ∧ s = txtS s bad (n : Int) ++ txtR s bad (n : Int) := by
  have h' := h
  unfold okT at h'
  rw [Bool.and_eq_true, decide_eq_true_eq] at h'
  obtain ⟨h1, h2, h3⟩ := h'
  refine ⟨by cases bad <;> simp at h1 ⊢, ?_, ?_⟩
  · rw [txtS, if_pos h, Int.toNat_natCast, ByteArray.size_extract]; omega
  · rw [txtS, txtR, if_pos h, if_pos h, Int.toNat_natCast]; exact split s n
theorem num_bad (s : ByteArray) (n : Int) : okN s true n = false := rfl
theorem txt_bad (s : ByteArray) (n : Int) : okT s true n = false := rfl
theorem numR_size (s : ByteArray) (bad : Bool) (n : Int) : (numR s bad n).size ≤ s.size := by
  rw [numR]; split
  · rw [ByteArray.size_extract]; omega
  · exact Nat.le_refl _
theorem txtR_size (s : ByteArray) (bad : Bool) (n : Int) : (txtR s bad n).size ≤ s.size := by
  rw [txtR]; split
  · rw [ByteArray.size_extract]; omega
  · exact Nat.le_refl _
theorem numV_lt (s : ByteArray) (bad : Bool) (W : Nat) : numV s bad (W : Int) < 256 ^ W := by
  cases h : okN s bad (W : Int) with
  | true => exact (num_read s bad W h).2.2.2.1
  | false => rw [numV, if_neg (by rw [h]; decide)]; exact Nat.pow_pos (by decide)
theorem app_inj_left {s t u : ByteArray} (h : s ++ t = s ++ u) : t = u := Go.WideShapes.bytes_inj (by
  have := congrArg (fun x : ByteArray => x.data.toList) h
  simp only [app_list] at this
  exact List.append_cancel_left this)
theorem size0 {s : ByteArray} (h : s.size = 0) : s = ⟨#[]⟩ := Go.WideShapes.bytes_inj (by
  have := size_list s; rw [h] at this; exact List.eq_nil_of_length_eq_zero this.symm)
end Rm
end Go.Proofs.YtdbjfofnkijmoaaDoor
