/- label: label: how long a label is. -/
import Derived.Test.YtaopknddpagjeaaDoorLabFitM
import Derived.Test.YtaopknddpagjeaaDoorLabMath
namespace Go.Proofs.YtaopknddpagjeaaDoor
open Go.RowKit
set_option linter.unusedVariables false
set_option linter.unusedSimpArgs false
open Lb

theorem encI_sum : ∀ (l : List (Int × Nat)), (encI l).size ≤ (l.map (·.2)).sum
  | [] => Nat.zero_le _
  | p :: l => by
    have h1 : (numL p.1 (p.2 : Int)).size ≤ p.2 := by
      rw [numL]; split
      · rw [lineOf_size, Pk.be_length, Int.toNat_natCast]; exact Nat.le_refl _
      · exact Nat.zero_le _
    have := encI_sum l
    rw [encI, ByteArray.size_append, List.map_cons, List.sum_cons]; omega
theorem tW_sum (n : Nat) : (tW n).sum = 8 * n := by
  induction n with
  | zero => rfl
  | succ n ih => simp only [tW, List.sum_cons, ih]; omega
/-- A right label takes at most 72 bytes. -/
theorem putL_size {x : Lbl} (h : rightB x = true) : (putL x).size ≤ 72 := by
  have hR := (right_iff x).1 h
  obtain ⟨n, hn, e1, e2, e3, _, h7⟩ := hR.nat
  obtain ⟨t1, _, _, _⟩ := tails_w e1 e2 e3
  rw [putL, if_pos h, putS, ByteArray.size_append]
  have := encI_sum (items x)
  rw [items, List.map_append, t1, List.sum_append, tW_sum] at this
  have e : ((heads x).map (·.2)).sum = 12 := rfl
  have e' : Lb.mark.size = 4 := rfl
  rw [e] at this
  rw [e']
  show 4 + (encI (heads x ++ tails x.st x.bo x.cu)).size ≤ 72
  omega
theorem zero_nought (n : Nat) : zeroB (lineOf (List.replicate n 0)) = true := by
  show (List.replicate n (0 : UInt8)).all (· == 0) = true
  rw [List.all_replicate]; simp
theorem put_toL {x y : Lbl} (hx : rightB x = true) (hy : rightB y = true) : ((putL x).toList == (putL y).toList) = decide (x = y) := by
  rw [Lib.toList_data, Lib.toList_data, Bool.eq_iff_iff, beq_iff_eq, decide_eq_true_eq]
  exact ⟨fun h => (put_inj hx hy).1 (Go.WideShapes.bytes_inj h), fun h => by rw [h]⟩
end Go.Proofs.YtaopknddpagjeaaDoor
