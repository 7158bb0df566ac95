/- command: how commands are laid and taken up; plain. -/
import Derived.Test.YtjbekphjhmlloaaDoorCmdBase
import Derived.Test.YtjbekphjhmlloaaDoorRdMath
namespace Go.Proofs.YtjbekphjhmlloaaDoor
open Go.RowKit
set_option linter.unusedVariables false
set_option linter.unusedSimpArgs false

/-- A command. -/
structure Cmd where
  op : Int
  n : ByteArray
  o : ByteArray
  a : Int
  c : Int
  d : ByteArray
def Cmd.v (x : Cmd) : Value := .agg #[.int .i64 x.op, .string x.n, .string x.o, .int .i64 x.a, .int .i64 x.c, .string x.d]
def noCmd : Cmd := ⟨0, ⟨#[]⟩, ⟨#[]⟩, 0, 0, ⟨#[]⟩⟩
/-- Which fields the command's op has. -/
def Cmd.row (x : Cmd) : List Nat := rowOf x.op.toNat
def okS (r : List Nat) (f : Nat) (s : ByteArray) : Bool := decide (f ∈ r) || decide (s.size = 0)
def okI (r : List Nat) (f : Nat) (n : Int) : Bool := decide (f ∈ r) || decide (n = 0)
def limB (x : Cmd) : Bool := isOpB x.op && (decide (x.n.size ≤ 20) && (decide (x.o.size ≤ 20) && (isCntB x.a && (isCntB x.c && decide (x.d.size ≤ 600)))))
def useB (x : Cmd) : Bool := okS x.row 1 x.n && (okS x.row 2 x.o && (okI x.row 3 x.a && (okI x.row 4 x.c && okS x.row 5 x.d)))
def rightB (x : Cmd) : Bool := limB x && useB x
def encT (s : ByteArray) (W : Nat) : ByteArray := numL (s.size : Int) (W : Int) ++ s
def encF (x : Cmd) (f : Nat) : ByteArray :=
  if f = 1 then encT x.n 1 else if f = 2 then encT x.o 1 else if f = 3 then numL x.a 6 else if f = 4 then numL x.c 6 else if f = 5 then encT x.d 2 else ⟨#[]⟩
def encR (x : Cmd) (r : List Nat) : ByteArray := r.foldl (fun s f => s ++ encF x f) (numL x.op 1)
def putL (x : Cmd) : ByteArray := if rightB x then encR x x.row else ⟨#[]⟩
def putE (x : Cmd) : Int := if rightB x then 0 else 200
/-- A command that is being read. -/
structure PSt where
  x : Cmd
  s : ByteArray
  b : Bool
def rdT (s : ByteArray) (b : Bool) (W : Nat) : ByteArray := txtS (numR s b (W : Int)) (!okN s b (W : Int)) ((numV s b (W : Int) : Nat) : Int)
def rdTR (s : ByteArray) (b : Bool) (W : Nat) : ByteArray := txtR (numR s b (W : Int)) (!okN s b (W : Int)) ((numV s b (W : Int) : Nat) : Int)
def rdTB (s : ByteArray) (b : Bool) (W : Nat) : Bool := !okT (numR s b (W : Int)) (!okN s b (W : Int)) ((numV s b (W : Int) : Nat) : Int)
def stepF (p : PSt) (f : Nat) : PSt :=
  if f = 1 then ⟨{ p.x with n := rdT p.s p.b 1 }, rdTR p.s p.b 1, rdTB p.s p.b 1⟩
  else if f = 2 then ⟨{ p.x with o := rdT p.s p.b 1 }, rdTR p.s p.b 1, rdTB p.s p.b 1⟩
  else if f = 3 then ⟨{ p.x with a := ((numV p.s p.b 6 : Nat) : Int) }, numR p.s p.b 6, !okN p.s p.b 6⟩
  else if f = 4 then ⟨{ p.x with c := ((numV p.s p.b 6 : Nat) : Int) }, numR p.s p.b 6, !okN p.s p.b 6⟩
  else if f = 5 then ⟨{ p.x with d := rdT p.s p.b 2 }, rdTR p.s p.b 2, rdTB p.s p.b 2⟩
  else p
def pSt0 (s : ByteArray) : PSt := ⟨{ noCmd with op := ((numV s false 1 : Nat) : Int) }, numR s false 1, !okN s false 1⟩
def parse (s : ByteArray) : PSt := (rowOf (numV s false 1)).foldl stepF (pSt0 s)
def getB (s : ByteArray) : Bool := isOpB (parse s).x.op && (!(parse s).b && (decide ((parse s).s.size = 0) && rightB (parse s).x))
def getC (s : ByteArray) : Cmd := if getB s then (parse s).x else noCmd
def getE (s : ByteArray) : Int := if getB s then 0 else 200
theorem limB_iff (x : Cmd) : limB x = true ↔ (1 ≤ x.op ∧ x.op ≤ 9) ∧ x.n.size ≤ 20 ∧ x.o.size ≤ 20 ∧ (0 ≤ x.a ∧ x.a ≤ 1099511627776) ∧ (0 ≤ x.c ∧ x.c ≤ 1099511627776) ∧ x.d.size ≤ 600 := by
  simp [limB, isOpB, isCntB, Bool.and_eq_true]
/-- What is read as a text was laid as one. -/
theorem rdT_read {s : ByteArray} {b : Bool} {W : Nat} (h : rdTB s b W = false) : b = false ∧ s = encT (rdT s b W) W ++ rdTR s b W := by
  have h1 : okT (numR s b (W : Int)) (!okN s b (W : Int)) ((numV s b (W : Int) : Nat) : Int) = true := by unfold rdTB at h; simpa using h
  obtain ⟨e1, e2, e3⟩ := Rm.txt_read _ _ _ h1
  have h2 : okN s b (W : Int) = true := by simpa using e1
  obtain ⟨f1, f2, f3, f4, f5⟩ := Rm.num_read _ _ _ h2
  refine ⟨f1, ?_⟩
  have e2' : (rdT s b W).size = numV s b (W : Int) := e2
  unfold encT
  rw [e2', Rm.numL_nat _ _ f2 f3 f4, Rm.app_assoc]
  have e3' : numR s b (W : Int) = rdT s b W ++ rdTR s b W := e3
  rw [← e3']
  exact f5
theorem rdT_laid (t q : ByteArray) (W : Nat) (h1 : 1 ≤ W) (h7 : W ≤ 7) (h : t.size < 256 ^ W) : rdT (encT t W ++ q) false W = t ∧ rdTR (encT t W ++ q) false W = q ∧ rdTB (encT t W ++ q) false W = false := by
  have e : encT t W ++ q = lineOf (Pk.be W t.size) ++ (t ++ q) := by rw [encT, Rm.numL_nat _ _ h1 h7 h, Rm.app_assoc]
  obtain ⟨f1, f2, f3⟩ := Rm.num_laid t.size W (t ++ q) h1 h7 h
  obtain ⟨g1, g2, g3⟩ := Rm.txt_laid t q
  rw [e, rdT, rdTR, rdTB, f1, f2, f3]
  exact ⟨g2, g3, by rw [show (!true) = false from rfl, g1]; rfl⟩
theorem num6_read {s : ByteArray} {b : Bool} (h : (!okN s b 6) = false) : b = false ∧ s = numL ((numV s b 6 : Nat) : Int) 6 ++ numR s b 6 := by
  have h2 : okN s b ((6 : Nat) : Int) = true := by simpa using h
  obtain ⟨f1, f2, f3, f4, f5⟩ := Rm.num_read _ _ _ h2
  exact ⟨f1, by have := Rm.numL_nat _ _ f2 f3 f4; rw [show ((6 : Nat) : Int) = 6 from rfl] at this f5; rw [this]; exact f5⟩
theorem num6_laid (n : Int) (q : ByteArray) (h0 : 0 ≤ n) (h1 : n ≤ 1099511627776) : ((numV (numL n 6 ++ q) false 6 : Nat) : Int) = n ∧ numR (numL n 6 ++ q) false 6 = q ∧ (!okN (numL n 6 ++ q) false 6) = false := by
  obtain ⟨k, rfl⟩ := Int.eq_ofNat_of_zero_le h0
  have hk : k < 256 ^ 6 := by have : (256 : Nat) ^ 6 = 281474976710656 := by decide
                              omega
  have e := Rm.numL_nat k 6 (by decide) (by decide) hk
  rw [show ((6 : Nat) : Int) = 6 from rfl] at e
  obtain ⟨f1, f2, f3⟩ := Rm.num_laid k 6 q (by decide) (by decide) hk
  rw [show ((6 : Nat) : Int) = 6 from rfl] at f1 f2 f3
  rw [e]
  exact ⟨by rw [f2], f3, by rw [f1]; rfl⟩
theorem op_laid (i : Nat) (q : ByteArray) (h : i < 256) : numV (numL (i : Int) 1 ++ q) false 1 = i ∧ numR (numL (i : Int) 1 ++ q) false 1 = q ∧ okN (numL (i : Int) 1 ++ q) false 1 = true := by
  have e := Rm.numL_nat i 1 (by decide) (by decide) (by omega)
  rw [show ((1 : Nat) : Int) = 1 from rfl] at e
  obtain ⟨f1, f2, f3⟩ := Rm.num_laid i 1 q (by decide) (by decide) (by omega)
  rw [show ((1 : Nat) : Int) = 1 from rfl] at f1 f2 f3
  rw [e]; exact ⟨f2, f3, f1⟩
theorem op_read {s : ByteArray} (h : okN s false 1 = true) : s = numL ((numV s false 1 : Nat) : Int) 1 ++ numR s false 1 := by
  obtain ⟨f1, f2, f3, f4, f5⟩ := Rm.num_read s false 1 h
  have := Rm.numL_nat _ _ f2 f3 f4
  rw [show ((1 : Nat) : Int) = 1 from rfl] at this f5
  rw [this]; exact f5
/-- A field of the command. -/
def setF (p x : Cmd) (f : Nat) : Cmd :=
  if f = 1 then { p with n := x.n } else if f = 2 then { p with o := x.o } else if f = 3 then { p with a := x.a } else if f = 4 then { p with c := x.c } else if f = 5 then { p with d := x.d } else p
theorem step_laid (x : Cmd) (hx : limB x = true) (p : Cmd) (f : Nat) (q : ByteArray) : stepF ⟨p, encF x f ++ q, false⟩ f = ⟨setF p x f, q, false⟩ := by
  obtain ⟨_, h1, h2, h3, h4, h5⟩ := (limB_iff x).1 hx
  unfold stepF encF setF
  by_cases e1 : f = 1
  · simp only [if_pos e1]
    obtain ⟨a1, a2, a3⟩ := rdT_laid x.n q 1 (by decide) (by decide) (by omega)
    rw [a1, a2, a3]
  simp only [if_neg e1]
  by_cases e2 : f = 2
  · simp only [if_pos e2]
    obtain ⟨a1, a2, a3⟩ := rdT_laid x.o q 1 (by decide) (by decide) (by omega)
    rw [a1, a2, a3]
  simp only [if_neg e2]
  by_cases e3 : f = 3
  · simp only [if_pos e3]
    obtain ⟨a1, a2, a3⟩ := num6_laid x.a q h3.1 h3.2
    rw [a1, a2, a3]
  simp only [if_neg e3]
  by_cases e4 : f = 4
  · simp only [if_pos e4]
    obtain ⟨a1, a2, a3⟩ := num6_laid x.c q h4.1 h4.2
    rw [a1, a2, a3]
  simp only [if_neg e4]
  by_cases e5 : f = 5
  · simp only [if_pos e5]
    obtain ⟨a1, a2, a3⟩ := rdT_laid x.d q 2 (by decide) (by decide) (by omega)
    rw [a1, a2, a3]
  simp only [if_neg e5]
  rw [Rm.nil_app]
/-- Whoever is not bad behind a field has read it. -/
theorem step_read {p : PSt} {f : Nat} (h : (stepF p f).b = false) : p.b = false ∧ p.s = encF (stepF p f).x f ++ (stepF p f).s := by
  unfold stepF encF at *
  by_cases e1 : f = 1
  · simp only [if_pos e1] at h ⊢; exact rdT_read h
  simp only [if_neg e1] at h ⊢
  by_cases e2 : f = 2
  · simp only [if_pos e2] at h ⊢; exact rdT_read h
  simp only [if_neg e2] at h ⊢
  by_cases e3 : f = 3
  · simp only [if_pos e3] at h ⊢; exact num6_read h
  simp only [if_neg e3] at h ⊢
  by_cases e4 : f = 4
  · simp only [if_pos e4] at h ⊢; exact num6_read h
  simp only [if_neg e4] at h ⊢
  by_cases e5 : f = 5
  · simp only [if_pos e5] at h ⊢; exact rdT_read h
  simp only [if_neg e5] at h ⊢
  exact ⟨h, by rw [Rm.nil_app]⟩
theorem enc3 (x : Cmd) (f g h : Nat) : encR x [f, g, h] = numL x.op 1 ++ (encF x f ++ (encF x g ++ encF x h)) := by
  simp only [encR, List.foldl_cons, List.foldl_nil, Rm.app_assoc]
theorem cmd_eta (x : Cmd) (h : rightB x = true) : setF (setF (setF { noCmd with op := x.op } x (x.row.getD 0 0)) x (x.row.getD 1 0)) x (x.row.getD 2 0) = x := by
  unfold rightB at h
  rw [Bool.and_eq_true] at h
  obtain ⟨hl, hu⟩ := h
  obtain ⟨⟨h1, h9⟩, _⟩ := (limB_iff x).1 hl
  obtain ⟨op, n, o, a, c, d⟩ := x
  obtain ⟨i, rfl⟩ := Int.eq_ofNat_of_zero_le (show 0 ≤ op by simp at h1; omega)
  simp only at h1 h9
  have h1' : 1 ≤ i := by omega
  have h9' : i ≤ 9 := by omega
  have z : ∀ s : ByteArray, s.size = 0 → (⟨#[]⟩ : ByteArray) = s := fun s hs => (Rm.size0 hs).symm
  rcases (by omega : i = 1 ∨ i = 2 ∨ i = 3 ∨ i = 4 ∨ i = 5 ∨ i = 6 ∨ i = 7 ∨ i = 8 ∨ i = 9) with rfl | rfl | rfl | rfl | rfl | rfl | rfl | rfl | rfl <;>
    (simp [useB, Cmd.row, rowOf, okS, okI] at hu
     simp only [setF, Cmd.row, rowOf, noCmd, Int.toNat_natCast, List.getD_cons_zero, List.getD_cons_succ]
     simp
     simp_all)
/-- What is laid is taken up, whatever stands behind. -/
theorem parse_laid (x : Cmd) (h : rightB x = true) (q : ByteArray) : parse (encR x x.row ++ q) = ⟨x, q, false⟩ := by
  have he := cmd_eta x h
  have hl : limB x = true := by unfold rightB at h; rw [Bool.and_eq_true] at h; exact h.1
  obtain ⟨⟨h1, h9⟩, _⟩ := (limB_iff x).1 hl
  obtain ⟨i, hi⟩ := Int.eq_ofNat_of_zero_le (show 0 ≤ x.op by omega)
  obtain ⟨f, g, k, hr, _⟩ := row_form i
  have hrow : x.row = [f, g, k] := by rw [Cmd.row, hi]; exact hr
  obtain ⟨o1, o2, o3⟩ := op_laid i (encF x f ++ (encF x g ++ (encF x k ++ q))) (by omega)
  rw [hrow] at he ⊢
  have e : encR x [f, g, k] ++ q = numL (i : Int) 1 ++ (encF x f ++ (encF x g ++ (encF x k ++ q))) := by rw [enc3, hi]; simp only [Rm.app_assoc]
  rw [e, parse, pSt0, o1, o2, o3, hr]
  simp only [List.foldl_cons, List.foldl_nil, Bool.not_true]
  rw [step_laid x hl, step_laid x hl, step_laid x hl]
  simp only [List.getD_cons_zero, List.getD_cons_succ] at he
  rw [hi] at he
  rw [he]
theorem setF_op (p x : Cmd) (f : Nat) : (setF p x f).op = p.op := by unfold setF; split <;> (try rfl); split <;> (try rfl); split <;> (try rfl); split <;> (try rfl); split <;> rfl
theorem step_op (p : PSt) (f : Nat) : (stepF p f).x.op = p.x.op := by unfold stepF; split <;> (try rfl); split <;> (try rfl); split <;> (try rfl); split <;> (try rfl); split <;> rfl
theorem parse_op (s : ByteArray) : (parse s).x.op = ((numV s false 1 : Nat) : Int) := by
  obtain ⟨f, g, k, hr, _⟩ := row_form (numV s false 1)
  rw [parse, hr]
  simp only [List.foldl_cons, List.foldl_nil, step_op]; rfl
/-- A later field leaves the earlier ones. -/
theorem step_enc (p : PSt) (f g : Nat) (h : f ≠ g ∨ f = 0 ∨ g = 0) : encF (stepF p g).x f = encF p.x f := by
  by_cases e0 : f = 0
  · subst e0; simp [encF]
  by_cases e1 : g = 0
  · subst e1; simp [stepF]
  have hne : f ≠ g := by omega
  unfold stepF
  by_cases d1 : g = 1
  · simp only [if_pos d1, encF, if_neg (show ¬ f = 1 by omega)]
  simp only [if_neg d1]
  by_cases d2 : g = 2
  · simp only [if_pos d2, encF, if_neg (show ¬ f = 2 by omega)]
  simp only [if_neg d2]
  by_cases d3 : g = 3
  · simp only [if_pos d3, encF, if_neg (show ¬ f = 3 by omega)]
  simp only [if_neg d3]
  by_cases d4 : g = 4
  · simp only [if_pos d4, encF, if_neg (show ¬ f = 4 by omega)]
  simp only [if_neg d4]
  by_cases d5 : g = 5
  · simp only [if_pos d5, encF, if_neg (show ¬ f = 5 by omega)]
  simp only [if_neg d5]
theorem row_apart (i : Nat) : ∀ f g k, rowOf i = [f, g, k] → (f ≠ g ∨ f = 0 ∨ g = 0) ∧ (f ≠ k ∨ f = 0 ∨ k = 0) ∧ (g ≠ k ∨ g = 0 ∨ k = 0) := by
  intro f g k h
  unfold rowOf at h
  split at h <;> (simp only [List.cons.injEq] at h; omega)
theorem row_op {i : Nat} (h : ¬ (1 ≤ i ∧ i ≤ 9)) : rowOf i = [0, 0, 0] := by
  unfold rowOf; split <;> first | rfl | omega
/-- Whoever is not bad in the end has taken up what was laid. -/
theorem parse_read {s : ByteArray} (h : (parse s).b = false) : s = encR (parse s).x (parse s).x.row ++ (parse s).s := by
  obtain ⟨f, g, k, hr, _⟩ := row_form (numV s false 1)
  obtain ⟨a1, a2, a3⟩ := row_apart _ f g k hr
  have hrow : (parse s).x.row = [f, g, k] := by rw [Cmd.row, parse_op, Int.toNat_natCast, hr]
  have hp : parse s = stepF (stepF (stepF (pSt0 s) f) g) k := by rw [parse, hr]; rfl
  rw [hrow, enc3, parse_op]
  rw [hp] at h ⊢
  obtain ⟨b3, s3⟩ := step_read h
  obtain ⟨b2, s2⟩ := step_read b3
  obtain ⟨b1, s1⟩ := step_read b2
  have b0 : okN s false 1 = true := by simpa [pSt0] using b1
  have s0 := op_read b0
  rw [step_enc _ f k a2, step_enc _ f g a1, step_enc _ g k a3]
  rw [Rm.app_assoc, Rm.app_assoc, Rm.app_assoc, ← s3, ← s2, ← s1]
  exact s0
theorem get_laid (x : Cmd) (h : rightB x = true) (q : ByteArray) : getB (encR x x.row ++ q) = decide (q.size = 0) := by
  have hl : limB x = true := by unfold rightB at h; rw [Bool.and_eq_true] at h; exact h.1
  obtain ⟨h1, _⟩ := (limB_iff x).1 hl
  have ho : isOpB x.op = true := by unfold isOpB; exact decide_eq_true h1
  rw [getB, parse_laid x h q]
  simp [ho, h]
theorem get_read {s : ByteArray} (h : getB s = true) : rightB (parse s).x = true ∧ s = encR (parse s).x (parse s).x.row := by
  unfold getB at h
  simp only [Bool.and_eq_true, decide_eq_true_eq, Bool.not_eq_true'] at h
  obtain ⟨_, h2, h3, h4⟩ := h
  refine ⟨h4, ?_⟩
  have := parse_read h2
  rw [Rm.size0 h3, Rm.app_nil] at this
  exact this
/-- The document's own way to the same. -/
theorem get_same (s : ByteArray) : getB s = (rightB (parse s).x && decide (putL (parse s).x = s)) := by
  rw [Bool.eq_iff_iff]
  constructor
  · intro h
    obtain ⟨h1, h2⟩ := get_read h
    rw [h1, Bool.true_and, decide_eq_true_eq, putL, if_pos h1]
    exact h2.symm
  · intro h
    rw [Bool.and_eq_true, decide_eq_true_eq] at h
    obtain ⟨h1, h2⟩ := h
    rw [putL, if_pos h1] at h2
    have := get_laid _ h1 ⟨#[]⟩
    rw [Rm.app_nil, h2] at this
    rw [this]; rfl
end Go.Proofs.YtjbekphjhmlloaaDoor
