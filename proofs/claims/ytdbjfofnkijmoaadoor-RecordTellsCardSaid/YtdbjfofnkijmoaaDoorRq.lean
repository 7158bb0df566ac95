/- A reader, taken step by step; for whatever layer. -/
import Derived.Test.YtdbjfofnkijmoaaDoorRdMath
import Derived.Test.YtdbjfofnkijmoaaDoorRdText
namespace Go.Proofs.YtdbjfofnkijmoaaDoor
open Go.RowKit
set_option linter.unusedVariables false
set_option linter.unusedSimpArgs false

/-- What is left of a text that is read, and whether the reader is bad. -/
structure RS where
  s : ByteArray
  b : Bool
def rNum (p : RS) (W : Int) : Nat := numV p.s p.b W
def rNumR (p : RS) (W : Int) : RS := ⟨numR p.s p.b W, !okN p.s p.b W⟩
def rTxt (p : RS) (n : Int) : ByteArray := txtS p.s p.b n
def rTxtR (p : RS) (n : Int) : RS := ⟨txtR p.s p.b n, !okT p.s p.b n⟩
theorem rNumR_size (p : RS) (W : Int) : (rNumR p W).s.size ≤ p.s.size := Rm.numR_size _ _ _
theorem rTxtR_size (p : RS) (n : Int) : (rTxtR p n).s.size ≤ p.s.size := Rm.txtR_size _ _ _
theorem rNum_lt (p : RS) (W : Nat) : rNum p (W : Int) < 256 ^ W := Rm.numV_lt _ _ _
theorem num_l (n : Int) (W : Nat) (q : ByteArray) (h1 : 1 ≤ W) (h7 : W ≤ 7) (h0 : 0 ≤ n) (h : n < ((256 ^ W : Nat) : Int)) :
    ((rNum ⟨numL n (W : Int) ++ q, false⟩ (W : Int) : Nat) : Int) = n ∧ rNumR ⟨numL n (W : Int) ++ q, false⟩ (W : Int) = ⟨q, false⟩ := by
  obtain ⟨k, rfl⟩ := Int.eq_ofNat_of_zero_le h0
  have hk : k < 256 ^ W := by omega
  obtain ⟨f1, f2, f3⟩ := Rm.num_laid k W q h1 h7 hk
  rw [Rm.numL_nat k W h1 h7 hk]
  unfold rNum rNumR
  exact ⟨by rw [f2], by rw [f3, f1]; rfl⟩
theorem txt_l (t q : ByteArray) (n : Int) (hn : n = (t.size : Int)) : rTxt ⟨t ++ q, false⟩ n = t ∧ rTxtR ⟨t ++ q, false⟩ n = ⟨q, false⟩ := by
  subst hn
  obtain ⟨f1, f2, f3⟩ := Rm.txt_laid t q
  unfold rTxt rTxtR
  exact ⟨f2, by rw [f3, f1]; rfl⟩
def TakesR (w : World) (b : Nat) (v : Value) (q : RS) (e : Ending) (w' : World) : Prop := e = .returned v ∧ RdTo w b q.s q.b w'
theorem rdnum_q (b : Nat) (q : RS) (n : Int) (w : World) (h : RdAt w b q.s q.b) (hs : q.s.size ≤ 140737488355328) : Calls Tryd.prog 53 #[.pointer (some ⟨b, 0, none⟩), .int .i64 n] w (TakesR w b (.int .i64 ((rNum q n : Nat) : Int)) (rNumR q n)) := rdnum_any b q.s q.b n w h hs
theorem rdtxt_q (b : Nat) (q : RS) (n : Int) (w : World) (h : RdAt w b q.s q.b) (hs : q.s.size ≤ 140737488355328) : Calls Tryd.prog 52 #[.pointer (some ⟨b, 0, none⟩), .int .i64 n] w (TakesR w b (.string (rTxt q n)) (rTxtR q n)) := rdtext_any b q.s q.b n w h hs
theorem rrnum_q (b : Nat) (q : RS) (n : Int) (w : World) (h : RdAt w b q.s q.b) (hs : q.s.size ≤ 140737488355328) : Calls Tryd.prog 57 #[.pointer (some ⟨b, 0, none⟩), .int .i64 n] w (TakesR w b (.int .i64 ((rNum q n : Nat) : Int)) (rNumR q n)) := rnumr_any b q.s q.b n w h
theorem rrtxt_q (b : Nat) (q : RS) (n : Int) (w : World) (h : RdAt w b q.s q.b) (hs : q.s.size ≤ 140737488355328) : Calls Tryd.prog 56 #[.pointer (some ⟨b, 0, none⟩), .int .i64 n] w (TakesR w b (.string (rTxt q n)) (rTxtR q n)) := rtext_any b q.s q.b n w h
end Go.Proofs.YtdbjfofnkijmoaaDoor
