/- record: heads and bodies that were turned; plain. -/
import Derived.Test.YtdbjfofnkijmoaaDoorRecLaw3
import Derived.Test.YtdbjfofnkijmoaaDoorCrcMath
import Derived.Test.YtdbjfofnkijmoaaDoorPackMath
namespace Go.Proofs.YtdbjfofnkijmoaaDoor
open Go.RowKit
set_option linter.unusedVariables false
set_option linter.unusedSimpArgs false

open Rc
/-- What was turned. -/
def turnL (S : List UInt8) (f r k : Nat) : List UInt8 := (List.range S.length).map fun j => if f ≤ j ∧ j < f + k then UInt8.ofNat ((S.getD j 0).toNat ^^^ (r / 256 ^ (j - f) % 256)) else S.getD j 0
theorem turn_length (S : List UInt8) (f r k : Nat) : (turnL S f r k).length = S.length := by simp [turnL]
theorem turn_get (S : List UInt8) (f r k : Nat) {j : Nat} (h : j < S.length) : (turnL S f r k).getD j 0 = if f ≤ j ∧ j < f + k then UInt8.ofNat ((S.getD j 0).toNat ^^^ (r / 256 ^ (j - f) % 256)) else S.getD j 0 := by
  rw [List.getD_eq_getElem?_getD, List.getElem?_eq_getElem (by rw [turn_length]; exact h)]
  simp only [turnL, List.getElem_map, List.getElem_range, Option.getD_some]
theorem turn_zero (S : List UInt8) (f r : Nat) : turnL S f r 0 = S := by
  apply List.ext_getElem (turn_length _ _ _ _)
  intro j h1 h2
  have := turn_get S f r 0 h2
  rw [if_neg (by omega), List.getD_eq_getElem?_getD, List.getElem?_eq_getElem h1, List.getD_eq_getElem?_getD, List.getElem?_eq_getElem h2] at this
  exact this
theorem turn_succ (S : List UInt8) (f r k : Nat) (h : f + k < S.length) : turnL S f r (k + 1) = (turnL S f r k).set (f + k) (UInt8.ofNat (((turnL S f r k).getD (f + k) 0).toNat ^^^ (r / 256 ^ k % 256))) := by
  rw [turn_get S f r k h, if_neg (by omega)]
  apply List.ext_getElem (by simp [turn_length])
  intro j h1 h2
  rw [turn_length] at h1
  have e1 := turn_get S f r (k + 1) h1
  have e2 := turn_get S f r k h1
  rw [List.getD_eq_getElem?_getD, List.getElem?_eq_getElem (by rw [turn_length]; exact h1)] at e1 e2
  simp only [Option.getD_some] at e1 e2
  rw [List.getElem_set, e1]
  by_cases e : f + k = j
  · rw [if_pos e, if_pos (by omega), ← e, show f + k - f = k by omega]
  · rw [if_neg e, e2]
    by_cases h3 : f ≤ j ∧ j < f + k
    · rw [if_pos h3, if_pos (by omega)]
    · rw [if_neg h3, if_neg (by omega)]
theorem xor_byte (a : UInt8) (b : Nat) (hb : b < 256) : (UInt8.ofNat (a.toNat ^^^ b)).toNat = a.toNat ^^^ b := by
  have h : a.toNat ^^^ b < 2 ^ 8 := Nat.xor_lt_two_pow (n := 8) a.toNat_lt hb
  exact UInt8.toNat_ofNat_of_lt' h
theorem xor_ne (a : UInt8) (b : Nat) (hb : b < 256) (h : b ≠ 0) : UInt8.ofNat (a.toNat ^^^ b) ≠ a := by
  intro e
  have := xor_byte a b hb
  rw [e] at this
  apply h
  have h2 : a.toNat ^^^ (a.toNat ^^^ b) = a.toNat ^^^ a.toNat := by rw [← this]
  rw [← Nat.xor_assoc, Nat.xor_self, Nat.zero_xor] at h2
  exact h2
theorem turn_ne (S : List UInt8) (f r : Nat) (h : f + 4 ≤ S.length) (h0 : r ≠ 0) (hr : r < 4294967296) : turnL S f r 4 ≠ S := by
  intro e
  have hk : ∀ k, k < 4 → r / 256 ^ k % 256 = 0 := fun k hk => by
    have h1 := turn_get S f r 4 (j := f + k) (by omega)
    rw [if_pos (by omega), e, show f + k - f = k by omega] at h1
    by_cases hz : r / 256 ^ k % 256 = 0
    · exact hz
    · exact absurd h1.symm (xor_ne _ _ (Nat.mod_lt _ (by decide)) hz)
  have k0 := hk 0 (by decide)
  have k1 := hk 1 (by decide)
  have k2 := hk 2 (by decide)
  have k3 := hk 3 (by decide)
  omega
theorem xor8 (a b : Nat) (h1 : a < 256) (h2 : b < 256) : bits .xor .u8 (a : Int) (b : Int) = ((a ^^^ b : Nat) : Int) := by
  have hl : a ^^^ b < 256 := Nat.xor_lt_two_pow (n := 8) h1 h2
  have e : (BitVec.ofNat 8 a ^^^ BitVec.ofNat 8 b).toNat = a ^^^ b := by
    rw [BitVec.toNat_xor, BitVec.toNat_ofNat, BitVec.toNat_ofNat, Nat.mod_eq_of_lt (by omega), Nat.mod_eq_of_lt (by omega)]
  have e2 : bits .xor .u8 (a : Int) (b : Int) = IntKind.u8.wrap (((BitVec.ofNat 8 a ^^^ BitVec.ofNat 8 b).toNat : Nat) : Int) := by
    have ea : BitVec.ofInt 8 (a : Int) = BitVec.ofNat 8 a := BitVec.ofInt_natCast 8 a
    have eb : BitVec.ofInt 8 (b : Int) = BitVec.ofNat 8 b := BitVec.ofInt_natCast 8 b
    rw [← ea, ← eb]; rfl
  rw [e2, e, IntKind.wrap_u8]
  omega
theorem byte_bits {a b : UInt8} (h : ∀ k, k < 8 → a.toNat / 2 ^ k % 2 = b.toNat / 2 ^ k % 2) : a = b := by
  rw [← UInt8.toNat_inj]
  apply Nat.eq_of_testBit_eq
  intro k
  rcases Nat.lt_or_ge k 8 with hk | hk
  · rw [Nat.testBit_eq_decide_div_mod_eq, Nat.testBit_eq_decide_div_mod_eq, h k hk]
  · have hp : 256 ≤ 2 ^ k := Nat.le_trans (show 256 ≤ 2 ^ 8 by decide) (Nat.pow_le_pow_right (by decide) hk)
    have h1 := a.toNat_lt
    have h2 := b.toNat_lt
    rw [Nat.testBit_lt_two_pow (Nat.lt_of_lt_of_le h1 hp), Nat.testBit_lt_two_pow (Nat.lt_of_lt_of_le h2 hp)]

/-- From whatever state: a text of which up to four bytes that stand side by side are others goes on otherwise. -/
theorem go_window {s : Nat} (hs0 : s < 4294967296) {A B : List UInt8} {k : Nat} (hl : A.length = B.length) (hw : ∀ j, j < k ∨ k + 4 ≤ j → A.getD j 0 = B.getD j 0) (e : Crc.go s A = Crc.go s B) : A = B := by
  rw [Crc.go_bits, Crc.go_bits, hl] at e
  have hs := Crc.run_same (a := 8 * k) hs0 (Crc.bitAt_lt A) (Crc.bitAt_lt B)
    (fun i hi => by unfold Crc.bitAt; rw [hw (i / 8) (.inl (by omega))])
    (fun i hi => by unfold Crc.bitAt; rw [hw (i / 8) (.inr (by omega))]) e
  apply List.ext_getElem hl
  intro j h1 h2
  apply byte_bits
  intro q hq
  have := hs (8 * j + q) (by omega)
  unfold Crc.bitAt at this
  rw [show (8 * j + q) / 8 = j by omega, show (8 * j + q) % 8 = q by omega, List.getD_eq_getElem?_getD, List.getD_eq_getElem?_getD, List.getElem?_eq_getElem h1, List.getElem?_eq_getElem h2] at this
  exact this
theorem fold_inj : ∀ (r : List ByteArray) {s t : Nat}, s < 4294967296 → t < 4294967296 → r.foldl (fun n t => Crc.go n t.data.toList) s = r.foldl (fun n t => Crc.go n t.data.toList) t → s = t
  | [], _, _, _, _, h => h
  | x :: r, s, t, hs, ht, h => Crc.go_inj hs ht x.data.toList (fold_inj r (Crc.go_lt hs _) (Crc.go_lt ht _) h)
theorem sum_turned {l : List ByteArray} {i : Nat} (hi : i < l.length) {t : ByteArray} {k : Nat} (hl : t.data.toList.length = l[i].data.toList.length) (hw : ∀ j, j < k ∨ k + 4 ≤ j → t.data.toList.getD j 0 = l[i].data.toList.getD j 0) (h : sumT (l.set i t) = sumT l) : t = l[i] := by
  have e := Crc.fin_inj h
  have e1 : l.set i t = l.take i ++ t :: l.drop (i + 1) := by
    rw [List.set_eq_take_append_cons_drop, if_pos hi]
  have e2 : l = l.take i ++ l[i] :: l.drop (i + 1) := by
    rw [← List.drop_eq_getElem_cons hi, List.take_append_drop]
  unfold crcT at e
  rw [e1] at e
  have e3 : l.foldl (fun n t => Crc.go n t.data.toList) 4294967295 = (l.take i ++ l[i] :: l.drop (i + 1)).foldl (fun n t => Crc.go n t.data.toList) 4294967295 := by rw [← e2]
  rw [e3, List.foldl_append, List.foldl_append, List.foldl_cons, List.foldl_cons] at e
  have hs := crcF_lt (l.take i) 4294967295 (by decide)
  exact Go.WideShapes.bytes_inj (go_window hs hl hw (fold_inj _ (Crc.go_lt hs _) (Crc.go_lt hs _) e))
theorem num_back {p : RS} {W : Nat} (h : (rNumR p W).b = false) : p.b = false ∧ p.s = numL ((rNum p W : Nat) : Int) (W : Int) ++ (rNumR p W).s := by
  have hk : okN p.s p.b (W : Int) = true := by
    have : (!okN p.s p.b (W : Int)) = false := h
    cases e : okN p.s p.b (W : Int) with
    | true => rfl
    | false => rw [e] at this; cases this
  obtain ⟨h1, h2, h3, h4, h5⟩ := Rm.num_read p.s p.b W hk
  refine ⟨h1, ?_⟩
  show p.s = numL ((numV p.s p.b (W : Int) : Nat) : Int) (W : Int) ++ numR p.s p.b (W : Int)
  rw [Rm.numL_nat _ W h2 h3 h4]
  exact h5
theorem txt_back {p : RS} {n : Nat} (h : (rTxtR p n).b = false) : p.b = false ∧ p.s = rTxt p n ++ (rTxtR p n).s := by
  have hk : okT p.s p.b (n : Int) = true := by
    have : (!okT p.s p.b (n : Int)) = false := h
    cases e : okT p.s p.b (n : Int) with
    | true => rfl
    | false => rw [e] at this; cases this
  obtain ⟨h1, h2, h3⟩ := Rm.txt_read p.s p.b n hk
  exact ⟨h1, h3⟩
theorem nB_append : ∀ (a b : List St), nB (a ++ b) = nB a ++ nB b
  | [], b => by rw [nB, List.nil_append, Rm.nil_app]
  | s :: a, b => by rw [List.cons_append, nB, nB_append a b, nB, Rm.app_assoc]
theorem nB_congr : ∀ (a b : List St), a.map St.n = b.map St.n → nB a = nB b
  | [], [], _ => rfl
  | [], _ :: _, h => by simp at h
  | _ :: _, [], h => by simp at h
  | x :: a, y :: b, h => by
    simp only [List.map_cons, List.cons.injEq] at h
    rw [nB, nB, h.1, nB_congr a b h.2]
theorem rdTo_back {q : RS} : ∀ {k : Nat}, (rdTo q k).b = false → q.b = false ∧ q.s = nB (rdS q k) ++ (rdTo q k).s
  | 0, h => ⟨h, by show q.s = nB [] ++ q.s; rw [nB, Rm.nil_app]⟩
  | k + 1, h => by
    have h1 := num_back (p := rdTo q k) (W := 1) h
    have h2 := rdTo_back h1.1
    refine ⟨h2.1, ?_⟩
    have e1 : (rdTo q k).s = numL ((rNum (rdTo q k) 1 : Nat) : Int) 1 ++ (rdTo q (k + 1)).s := h1.2
    have e2 : nB [bare ((rNum (rdTo q k) 1 : Nat) : Int)] = numL ((rNum (rdTo q k) 1 : Nat) : Int) 1 := by rw [nB, nB, Rm.app_nil]; rfl
    rw [rdS_succ, nB_append, e2, Rm.app_assoc, ← e1]
    exact h2.2
/-- A head that is taken is made of what it says. -/
theorem head_back {K M B : Int} {h : ByteArray} (ht : headB K M B h = true) : h = markS ++ (numL (hdQ h) 6 ++ (numL ((hdS h).length : Int) 1 ++ (nB (hdS h) ++ (numL (hdC h) 4 ++ (hdE h).s)))) := by
  unfold headB at ht
  simp only [Bool.and_eq_true, decide_eq_true_eq, Bool.not_eq_true'] at ht
  obtain ⟨hw, ⟨hb, _⟩, _⟩ := ht
  obtain ⟨b1, s1⟩ := num_back (p := rdTo (hd3 h) (hdK h)) (W := 4) hb
  obtain ⟨b2, s2⟩ := rdTo_back b1
  obtain ⟨b3, s3⟩ := num_back (p := hd2 h) (W := 1) b2
  obtain ⟨b4, s4⟩ := num_back (p := hd1 h) (W := 6) b3
  obtain ⟨b5, s5⟩ := txt_back (p := hd0 h) (n := 4) b4
  have hl : (hdS h).length = hdK h := by rw [hdS, rdS_len]
  have e1 : (rdTo (hd3 h) (hdK h)).s = numL (hdC h) 4 ++ (hdE h).s := s1
  have e2 : (hd3 h).s = nB (hdS h) ++ (rdTo (hd3 h) (hdK h)).s := s2
  have e3 : (hd2 h).s = numL ((hdK h : Nat) : Int) 1 ++ (hd3 h).s := s3
  have e4 : (hd1 h).s = numL (hdQ h) 6 ++ (hd2 h).s := s4
  have e5 : h = hdW h ++ (hd1 h).s := s5
  rw [hl, ← e1, ← e2, ← e3, ← e4, ← hw]
  exact e5
theorem take_fst (K : Int) (h : ByteArray) (b : List ByteArray) : (takeL K h b).map Prod.fst = (hdS h).map St.n := by
  unfold takeL
  rw [List.map_map]
  apply List.ext_getElem (by simp)
  intro i h1 h2
  have hi : i < (hdS h).length := by simpa using h2
  simp [hi]
theorem take_head {K M B : Int} {h : ByteArray} {b : List ByteArray} (ht : takeB K M B h b = true) : headB K M B h = true ∧ (b.length : Int) = ((hdS h).length : Int) * K ∧ txtB b = true ∧ ((sumT b : Nat) : Int) = hdC h := by
  unfold takeB at ht
  simp only [Bool.and_eq_true, decide_eq_true_eq] at ht
  exact ⟨ht.1, ht.2.1, ht.2.2.1, ht.2.2.2⟩
/-- Who takes the same record with the same body has the same head. -/
theorem head_same {K M B q : Int} {l : List St} {h : ByteArray} (hr : rightB K M B q l = true) (hs : h.size = (layS q l).size) (ht : takeB K M B h (allT l) = true) (hq : hdQ h = q) (hl : takeL K h (allT l) = l.map pr) : h = layS q l := by
  obtain ⟨h1, h2, h3, h4⟩ := take_head ht
  have hn : (hdS h).map St.n = l.map St.n := by
    rw [← take_fst K h (allT l), hl, List.map_map]; rfl
  have hll : (hdS h).length = l.length := by have := congrArg List.length hn; simpa using this
  have e := head_back h1
  rw [hq, hll, nB_congr _ _ hn, ← h4] at e
  have e2 := lay_split q l (hdE h).s
  rw [← e2] at e
  have : (hdE h).s.size = 0 := by
    have := congrArg ByteArray.size e
    rw [ByteArray.size_append] at this; omega
  rw [Rm.size0 this, Rm.app_nil] at e
  exact e
/-- What is taken is right. -/
theorem take_right {K M B : Int} {h : ByteArray} {b : List ByteArray} (ht : takeB K M B h b = true) {m : List St} (hm : m.map pr = takeL K h b) : rightB K M B (hdQ h) m = true := by
  obtain ⟨h1, h2, h3, h4⟩ := take_head ht
  have hk := headB_K h1
  have hn : m.map St.n = (hdS h).map St.n := by
    rw [← take_fst K h b, ← hm, List.map_map]; rfl
  have ho : ordB K M B (hdQ h) m = true := by
    rw [ordB_nums hn]
    unfold headB at h1; simp only [Bool.and_eq_true] at h1; exact h1.2.2
  have hml : m.length = (hdS h).length := by have := congrArg List.length hn; simpa using this
  obtain ⟨kk, rfl⟩ := Int.eq_ofNat_of_zero_le (show 0 ≤ K by omega)
  have hbl : b.length = (hdS h).length * kk := by
    have : ((b.length : Nat) : Int) = (((hdS h).length * kk : Nat) : Int) := by rw [h2, Int.natCast_mul]
    omega
  unfold rightB
  rw [ho, Bool.true_and, List.all_eq_true]
  intro s hs
  obtain ⟨i, hi, rfl⟩ := List.mem_iff_getElem.1 hs
  have e : pr m[i] = (((hdS h).map St.n).getD i 0, chunk kk b i) := by
    have e1 : (m.map pr)[i]? = (takeL (kk : Int) h b)[i]? := by rw [hm]
    rw [List.getElem?_map, List.getElem?_eq_getElem hi] at e1
    unfold takeL at e1
    rw [List.getElem?_map, List.getElem?_range (by omega)] at e1
    simp only [Option.map_some, Option.some.injEq, Int.toNat_natCast] at e1
    exact e1
  have ed : m[i].d = chunk kk b i := congrArg Prod.snd e
  unfold stB
  simp only [Bool.and_eq_true, beq_iff_eq]
  rw [ed]
  constructor
  · unfold chunk
    rw [List.length_take, List.length_drop, hbl]
    have : (i + 1) * kk ≤ (hdS h).length * kk := Nat.mul_le_mul_right _ (by omega)
    rw [Nat.succ_mul] at this
    omega
  · rw [txtB_iff]
    intro t ht'
    exact (txtB_iff b).1 h3 t (List.mem_of_mem_drop (List.mem_of_mem_take ht'))
end Go.Proofs.YtdbjfofnkijmoaaDoor
