/- dir: how a directory is laid and taken up; plain. -/
import Derived.Test.YtfmgoamgcjipkaaDirMath
namespace Go.Proofs.Ytfmgoamgcjipkaa
open Go.RowKit
set_option linter.unusedVariables false
set_option linter.unusedSimpArgs false
namespace Dr
def mark : ByteArray := ⟨#[80, 79, 76, 49]⟩
theorem mark_size : mark.size = 4 := rfl
def encV (v : Vol) : ByteArray := numL (v.n.size : Int) 1 ++ (fillL v.n 6 ++ (numL v.s 2 ++ numL v.r 1))
def encs : List Vol → ByteArray
  | [] => ⟨#[]⟩
  | v :: l => encV v ++ encs l
theorem encs_append (l m : List Vol) : encs (l ++ m) = encs l ++ encs m := by
  induction l with
  | nil => rw [List.nil_append, encs, Rm.nil_app]
  | cons a l ih => rw [List.cons_append, encs, encs, ih, Rm.app_assoc]
theorem encs_succ (l : List Vol) (k : Nat) (hk : k < l.length) : encs (l.take (k + 1)) = encs (l.take k) ++ encV (at_ l k) := by
  rw [List.take_succ_eq_append_getElem hk, encs_append, at_get hk, encs, encs, Rm.app_nil]
def headS (blocks : Int) (n : Nat) : ByteArray := mark ++ numL blocks 1 ++ numL (n : Int) 1
def putS (blocks : Int) (l : List Vol) : ByteArray := padB (headS blocks l.length ++ encs l) 120
def putL (blocks : Int) (l : List Vol) : ByteArray := if rightB blocks l then putS blocks l else ⟨#[]⟩
def putE (blocks : Int) (l : List Vol) : Int := if rightB blocks l then 0 else 180
/-- What is left of a text that is read, and whether the reader is bad. -/
structure RS where
  s : ByteArray
  b : Bool
def rNum (p : RS) (W : Int) : Nat := numV p.s p.b W
def rNumR (p : RS) (W : Int) : RS := ⟨numR p.s p.b W, !okN p.s p.b W⟩
def rTxt (p : RS) (n : Int) : ByteArray := txtS p.s p.b n
def rTxtR (p : RS) (n : Int) : RS := ⟨txtR p.s p.b n, !okT p.s p.b n⟩
theorem rNumR_size (p : RS) (W : Int) : (rNumR p W).s.size ≤ p.s.size := Rm.numR_size _ _ _
theorem rTxtR_size (p : RS) (n : Int) : (rTxtR p n).s.size ≤ p.s.size := Rm.txtR_size _ _ _
theorem rNum_lt (p : RS) (W : Nat) : rNum p (W : Int) < 256 ^ W := Rm.numV_lt _ _ _
def rPad (p : RS) : ByteArray := rTxt (rNumR p 1) 6
def rV (p : RS) : Vol := ⟨(rPad p).extract 0 (min (rNum p 1) (rPad p).size), ((rNum (rTxtR (rNumR p 1) 6) 2 : Nat) : Int), ((rNum (rNumR (rTxtR (rNumR p 1) 6) 2) 1 : Nat) : Int)⟩
def rVR (p : RS) : RS := rNumR (rNumR (rTxtR (rNumR p 1) 6) 2) 1
theorem rVR_size (p : RS) : (rVR p).s.size ≤ p.s.size :=
  Nat.le_trans (rNumR_size _ _) (Nat.le_trans (rNumR_size _ _) (Nat.le_trans (rTxtR_size _ _) (rNumR_size _ _)))
def rVs : Nat → RS → List Vol × RS
  | 0, p => ([], p)
  | k + 1, p => ((rVs k p).1 ++ [rV (rVs k p).2], rVR (rVs k p).2)
theorem rVs_len : ∀ (k : Nat) (p : RS), (rVs k p).1.length = k
  | 0, _ => rfl
  | k + 1, p => by rw [rVs, List.length_append, rVs_len k p]; rfl
theorem rVs_size : ∀ (k : Nat) (p : RS), (rVs k p).2.s.size ≤ p.s.size
  | 0, _ => Nat.le_refl _
  | k + 1, p => Nat.le_trans (rVR_size _) (rVs_size k p)
def p0 (s : ByteArray) : RS := rTxtR ⟨s, false⟩ 4
def p1 (s : ByteArray) : RS := rNumR (p0 s) 1
def p2 (s : ByteArray) : RS := rNumR (p1 s) 1
theorem p2_size (s : ByteArray) : (p2 s).s.size ≤ s.size := Nat.le_trans (rNumR_size _ _) (Nat.le_trans (rNumR_size _ _) (rTxtR_size _ _))
def getN (s : ByteArray) : Int := ((rNum (p0 s) 1 : Nat) : Int)
def many (s : ByteArray) : Nat := rNum (p1 s) 1
def getV (s : ByteArray) (k : Nat) : List Vol := (rVs k (p2 s)).1
def isB (s : ByteArray) (k : Nat) : Bool := rightB (getN s) (getV s k) && decide (putL (getN s) (getV s k) = s)
def getB (s : ByteArray) : Bool := isB s (many s)
/-- More than eight volumes are none, however many of them are read. -/
theorem isB_nine (s : ByteArray) : isB s (min (many s) 9) = getB s := by
  by_cases h : many s ≤ 8
  · rw [getB, show min (many s) 9 = many s by omega]
  · have bad : ∀ k, 9 ≤ k → isB s k = false := fun k hk => by
      have : rightB (getN s) (getV s k) = false := by
        unfold rightB limB
        rw [decide_eq_false (by rw [show (getV s k).length = k from rVs_len k _]; omega), Bool.false_and]
      rw [isB, this, Bool.false_and]
    rw [getB, bad _ (by omega), bad _ (by omega)]
def outL (s : ByteArray) : List Vol := if getB s then getV s (many s) else []
def outN (s : ByteArray) : Int := if getB s then getN s else 0
def outE (s : ByteArray) : Int := if getB s then 0 else 180
theorem num_l (n : Int) (W : Nat) (q : ByteArray) (h1 : 1 ≤ W) (h7 : W ≤ 7) (h0 : 0 ≤ n) (h : n < ((256 ^ W : Nat) : Int)) :
    ((rNum ⟨numL n (W : Int) ++ q, false⟩ (W : Int) : Nat) : Int) = n ∧ rNumR ⟨numL n (W : Int) ++ q, false⟩ (W : Int) = ⟨q, false⟩ := by
  obtain ⟨k, rfl⟩ := Int.eq_ofNat_of_zero_le h0
  have hk : k < 256 ^ W := by omega
  obtain ⟨f1, f2, f3⟩ := Rm.num_laid k W q h1 h7 hk
  rw [Rm.numL_nat k W h1 h7 hk]
  unfold rNum rNumR
  exact ⟨by rw [f2], by rw [f3, f1]; rfl⟩
theorem txt_l (t q : ByteArray) (n : Int) (hn : n = (t.size : Int)) : rTxt ⟨t ++ q, false⟩ n = t ∧ rTxtR ⟨t ++ q, false⟩ n = ⟨q, false⟩ := by
  subst hn
  obtain ⟨f1, f2, f3⟩ := Rm.txt_laid t q
  unfold rTxt rTxtR
  exact ⟨f2, by rw [f3, f1]; rfl⟩
theorem fill6 (s : ByteArray) (h : s.size ≤ 6) : fillL s 6 = padB s 6 ∧ (padB s 6).size = 6 ∧ (padB s 6).extract 0 s.size = s := by
  have h' : s.data.toList.length ≤ 6 := by rw [← Rm.size_list]; exact h
  refine ⟨(fill_good default s 6 (by decide) h).1, ?_, ?_⟩
  · unfold padB; rw [lineOf_size, Pk.pad_length h']
  · have : padB s 6 = s ++ lineOf (List.replicate (6 - s.data.toList.length) 0) := by
      unfold padB Pk.padL; rw [line_append]
    rw [this, Rm.ext_left]
theorem volB_lim {blocks : Int} {v : Vol} (hb : blocks ≤ 200) (h : volB blocks v = true) : v.n.size ≤ 6 ∧ (0 ≤ v.s ∧ v.s ≤ 4096) ∧ 0 ≤ v.r ∧ v.r < 200 := by
  unfold volB at h
  simp only [Bool.and_eq_true, decide_eq_true_eq] at h
  obtain ⟨h1, h2, h3⟩ := h
  exact ⟨(nameB_size h1).2, h2, by omega, by omega⟩
theorem rV_laid {blocks : Int} {v : Vol} (hb : blocks ≤ 200) (h : volB blocks v = true) (q : ByteArray) : rV ⟨encV v ++ q, false⟩ = v ∧ rVR ⟨encV v ++ q, false⟩ = ⟨q, false⟩ := by
  obtain ⟨h1, h2, h3, h4⟩ := volB_lim hb h
  obtain ⟨f1, f2, f3⟩ := fill6 v.n h1
  have e : encV v ++ q = numL (v.n.size : Int) 1 ++ (padB v.n 6 ++ (numL v.s 2 ++ (numL v.r 1 ++ q))) := by simp only [encV, f1, Rm.app_assoc]
  have a := num_l (v.n.size : Int) 1 (padB v.n 6 ++ (numL v.s 2 ++ (numL v.r 1 ++ q))) (by decide) (by decide) (by omega) (by omega)
  have b := txt_l (padB v.n 6) (numL v.s 2 ++ (numL v.r 1 ++ q)) 6 (by rw [f2]; rfl)
  have c := num_l v.s 2 (numL v.r 1 ++ q) (by decide) (by decide) h2.1 (by omega)
  have d := num_l v.r 1 q (by decide) (by decide) h3 (by omega)
  rw [show ((1 : Nat) : Int) = 1 from rfl] at a d
  rw [show ((2 : Nat) : Int) = 2 from rfl] at c
  have a1 : rNum ⟨numL (v.n.size : Int) 1 ++ (padB v.n 6 ++ (numL v.s 2 ++ (numL v.r 1 ++ q))), false⟩ 1 = v.n.size := by omega
  rw [e]
  unfold rV rVR rPad
  rw [a1, a.2, b.1, b.2, c.2, d.2, c.1, d.1, f2, Nat.min_eq_left h1, f3]
  exact ⟨rfl, rfl⟩
theorem rVs_laid {blocks : Int} (hb : blocks ≤ 200) (q : ByteArray) : ∀ (l : List Vol), (∀ v ∈ l, volB blocks v = true) → ∀ k, k ≤ l.length → rVs k ⟨encs l ++ q, false⟩ = (l.take k, ⟨encs (l.drop k) ++ q, false⟩) := by
  intro l hl k
  induction k with
  | zero => intro _; simp [rVs]
  | succ k ih =>
    intro hk
    have hk' : k < l.length := by omega
    rw [rVs, ih (by omega)]
    rw [List.drop_eq_getElem_cons hk', encs, Rm.app_assoc]
    obtain ⟨e1, e2⟩ := rV_laid hb (hl _ (List.getElem_mem hk')) (encs (l.drop (k + 1)) ++ q)
    rw [e1, e2, List.take_succ_eq_append_getElem hk']
theorem put_split (blocks : Int) (l : List Vol) : ∃ q, putS blocks l = mark ++ (numL blocks 1 ++ (numL (l.length : Int) 1 ++ (encs l ++ q))) := by
  refine ⟨lineOf (List.replicate (120 - (headS blocks l.length ++ encs l).data.toList.length) 0), ?_⟩
  unfold putS padB Pk.padL
  rw [← line_append]
  simp only [headS, Rm.app_assoc]
theorem get_put {blocks : Int} {l : List Vol} (h : rightB blocks l = true) : getN (putS blocks l) = blocks ∧ many (putS blocks l) = l.length ∧ getV (putS blocks l) l.length = l := by
  obtain ⟨⟨h8, h200, hl⟩, hv, _⟩ := (rightB_iff blocks l).1 h
  obtain ⟨q, hq⟩ := put_split blocks l
  have a := txt_l mark (numL blocks 1 ++ (numL (l.length : Int) 1 ++ (encs l ++ q))) 4 rfl
  have b := num_l blocks 1 (numL (l.length : Int) 1 ++ (encs l ++ q)) (by decide) (by decide) (by omega) (by omega)
  have c := num_l (l.length : Int) 1 (encs l ++ q) (by decide) (by decide) (by omega) (by omega)
  rw [show ((1 : Nat) : Int) = 1 from rfl] at b c
  have e0 : p0 (putS blocks l) = ⟨numL blocks 1 ++ (numL (l.length : Int) 1 ++ (encs l ++ q)), false⟩ := by rw [p0, hq, a.2]
  have e1 : p1 (putS blocks l) = ⟨numL (l.length : Int) 1 ++ (encs l ++ q), false⟩ := by rw [p1, e0, b.2]
  have e2 : p2 (putS blocks l) = ⟨encs l ++ q, false⟩ := by rw [p2, e1, c.2]
  refine ⟨by rw [getN, e0, b.1], by rw [many, e1]; omega, ?_⟩
  rw [getV, e2, rVs_laid h200 q l hv l.length (Nat.le_refl _), List.take_length]
theorem get_laid {blocks : Int} {l : List Vol} (h : rightB blocks l = true) : getB (putL blocks l) = true ∧ outN (putL blocks l) = blocks ∧ outL (putL blocks l) = l := by
  obtain ⟨h1, h2, h3⟩ := get_put h
  have hp : putL blocks l = putS blocks l := by rw [putL, if_pos h]
  have hb : getB (putL blocks l) = true := by
    rw [hp, getB, isB, h1, h2, h3, h, hp]; simp
  refine ⟨hb, ?_, ?_⟩
  · rw [outN, if_pos hb, hp, h1]
  · rw [outL, if_pos hb, hp, h2, h3]
theorem put_inj {blocks : Int} {l m : List Vol} (hl : rightB blocks l = true) (hm : rightB blocks m = true) : (putL blocks l = putL blocks m) ↔ l = m := by
  constructor
  · intro e
    rw [← (get_laid hl).2.2, e, (get_laid hm).2.2]
  · intro e; rw [e]
theorem numL_size' (n : Int) (W : Nat) (h : W ≤ 7) : (numL n (W : Int)).size ≤ W := by
  rw [numL]; split
  · rw [lineOf_size, Pk.be_length, Int.toNat_natCast]; exact Nat.le_refl _
  · exact Nat.zero_le _
theorem fillL_size6 (s : ByteArray) : (fillL s 6).size ≤ 6 := by
  by_cases h : s.size ≤ 6
  · rw [(fill6 s h).1, (fill6 s h).2.1]; exact Nat.le_refl _
  · rw [fillL, if_neg (by unfold fillOk; rw [decide_eq_false (by omega)]; decide)]; exact Nat.zero_le _
theorem encV_size (v : Vol) : (encV v).size ≤ 10 := by
  have a := numL_size' (v.n.size : Int) 1 (by decide)
  have b := fillL_size6 v.n
  have c := numL_size' v.s 2 (by decide)
  have d := numL_size' v.r 1 (by decide)
  rw [show ((1 : Nat) : Int) = 1 from rfl] at a d
  rw [show ((2 : Nat) : Int) = 2 from rfl] at c
  unfold encV
  simp only [ByteArray.size_append]; omega
theorem encs_size (l : List Vol) : (encs l).size ≤ 10 * l.length := by
  induction l with
  | nil => exact Nat.zero_le _
  | cons a l ih => rw [encs, ByteArray.size_append, List.length_cons]; have := encV_size a; omega
theorem headS_size (blocks : Int) (n : Nat) : (headS blocks n).size ≤ 6 := by
  have a := numL_size' blocks 1 (by decide)
  have b := numL_size' (n : Int) 1 (by decide)
  rw [show ((1 : Nat) : Int) = 1 from rfl] at a b
  unfold headS
  simp only [ByteArray.size_append, mark_size]; omega
theorem body_size {blocks : Int} {l : List Vol} (h : rightB blocks l = true) (k : Nat) : (headS blocks l.length ++ encs (l.take k)).size ≤ 86 := by
  obtain ⟨⟨_, _, hl⟩, _⟩ := (rightB_iff blocks l).1 h
  have a := headS_size blocks l.length
  have b := encs_size (l.take k)
  rw [List.length_take] at b
  rw [ByteArray.size_append]; omega
theorem putS_size {blocks : Int} {l : List Vol} (h : rightB blocks l = true) : (putS blocks l).size = 120 := by
  have := body_size h l.length
  rw [List.take_length] at this
  unfold putS padB
  rw [lineOf_size, Pk.pad_length (by rw [← Rm.size_list]; omega)]
end Dr
end Go.Proofs.Ytfmgoamgcjipkaa
