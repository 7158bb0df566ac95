/- record: what was laid is taken; plain. -/
import Derived.Test.YtdbjfofnkijmoaaDoorRecTakeM
namespace Go.Proofs.YtdbjfofnkijmoaaDoor
open Go.RowKit
set_option linter.unusedVariables false
set_option linter.unusedSimpArgs false

open Rc
def nB : List St → ByteArray
  | [] => ⟨#[]⟩
  | s :: l => numL s.n 1 ++ nB l
theorem fold_nB : ∀ (l : List St) (a : ByteArray), l.foldl (fun a s => a ++ numL s.n 1) a = a ++ nB l
  | [], a => by rw [nB, Rm.app_nil]; rfl
  | s :: l, a => by rw [List.foldl_cons, fold_nB l, nB, Rm.app_assoc]
theorem lay_split (q : Int) (l : List St) (t : ByteArray) : layS q l ++ t = markS ++ (numL q 6 ++ (numL (l.length : Int) 1 ++ (nB l ++ (numL ((sumT (allT l) : Nat) : Int) 4 ++ t)))) := by
  unfold layS headTo
  rw [List.take_length, fold_nB, show (⟨#[74, 82, 78, 49]⟩ : ByteArray) = markS from rfl]
  simp only [Rm.app_assoc]
theorem rdTo_front (p : RS) : ∀ k, rdTo p (k + 1) = rdTo (rNumR p 1) k
  | 0 => rfl
  | k + 1 => by
    show rNumR (rdTo p (k + 1)) 1 = rNumR (rdTo (rNumR p 1) k) 1
    rw [rdTo_front p k]
theorem read_nB : ∀ (l : List St) (t : ByteArray), (∀ s ∈ l, 0 ≤ s.n ∧ s.n < 256) → rdTo ⟨nB l ++ t, false⟩ l.length = ⟨t, false⟩ ∧ rdS ⟨nB l ++ t, false⟩ l.length = l.map fun s => bare s.n
  | [], t, _ => by
    refine ⟨?_, rfl⟩
    show (⟨nB [] ++ t, false⟩ : RS) = _
    rw [nB, Rm.nil_app]
  | s :: l, t, h => by
    have hs := h s (List.mem_cons_self ..)
    obtain ⟨n1, n2⟩ := num_l s.n 1 (nB l ++ t) (by decide) (by decide) hs.1 (by simpa using hs.2)
    have n1 : ((rNum ⟨numL s.n 1 ++ (nB l ++ t), false⟩ 1 : Nat) : Int) = s.n := n1
    have n2 : rNumR ⟨numL s.n 1 ++ (nB l ++ t), false⟩ 1 = ⟨nB l ++ t, false⟩ := n2
    obtain ⟨i1, i2⟩ := read_nB l t fun x hx => h x (List.mem_cons_of_mem _ hx)
    rw [nB, Rm.app_assoc]
    refine ⟨by rw [List.length_cons, rdTo_front, n2]; exact i1, ?_⟩
    rw [List.length_cons, List.map_cons, ← i2]
    unfold rdS
    rw [List.range_succ_eq_map, List.map_cons, List.map_map]
    congr 1
    · show bare ((rNum ⟨numL s.n 1 ++ (nB l ++ t), false⟩ 1 : Nat) : Int) = _
      rw [n1]
    · apply List.map_congr_left
      intro i _
      show bare ((rNum (rdTo ⟨numL s.n 1 ++ (nB l ++ t), false⟩ (i + 1)) 1 : Nat) : Int) = _
      rw [rdTo_front, n2]
theorem incB_rng {top : Int} : ∀ (l : List St) (last : Int), incB top last l = true → ∀ s ∈ l, last < s.n ∧ s.n < top
  | [], _, _, s, hs => by cases hs
  | a :: l, last, h, s, hs => by
    rw [incB] at h
    simp only [Bool.and_eq_true, Bool.not_eq_true', decide_eq_false_iff_not] at h
    rcases List.mem_cons.1 hs with rfl | hs
    · omega
    · have := incB_rng l a.n h.2.2 s hs; omega
/-- What a right record's head says. -/
structure Laid (K M B q : Int) (l : List St) (h : ByteArray) : Prop where
  t : headB K M B h = true
  q : hdQ h = q
  s : hdS h = l.map fun s => bare s.n
  c : hdC h = ((sumT (allT l) : Nat) : Int)
theorem ord_facts {K M B q : Int} {l : List St} (h : ordB K M B q l = true) : (1 ≤ K ∧ K ≤ 4) ∧ (1 ≤ q ∧ q ≤ 1099511627776) ∧ (1 ≤ l.length ∧ l.length ≤ 16) ∧ (∀ s ∈ l, 0 ≤ s.n ∧ s.n < 256) := by
  unfold ordB at h
  simp only [Bool.and_eq_true, decide_eq_true_eq] at h
  obtain ⟨hg, hq, hn, hi⟩ := h
  have hK := gR_true hg
  refine ⟨⟨hK.1, hK.2.1⟩, hq, hn, fun s hs => ?_⟩
  have := incB_rng l (-1) hi s hs
  have hS : gStripes K M B = (B + K - 1) / K := by unfold gStripes; rw [hg]; rfl
  have hu : (B + K - 1) / K ≤ 203 := Int.le_trans (Int.ediv_le_self _ (by omega)) (by omega)
  omega
theorem laid {K M B q : Int} {l : List St} (hr : ordB K M B q l = true) {t : ByteArray} (hz : zeroB t = true) : Laid K M B q l (layS q l ++ t) := by
  obtain ⟨hK, hq, hn, hs⟩ := ord_facts hr
  have hc := sumT_lt (allT l)
  rw [lay_split]
  obtain ⟨t1, t2⟩ := txt_l markS (numL q 6 ++ (numL (l.length : Int) 1 ++ (nB l ++ (numL ((sumT (allT l) : Nat) : Int) 4 ++ t)))) 4 rfl
  obtain ⟨q1, q2⟩ := num_l q 6 (numL (l.length : Int) 1 ++ (nB l ++ (numL ((sumT (allT l) : Nat) : Int) 4 ++ t))) (by decide) (by decide) (by omega) (by have : ((256 ^ 6 : Nat) : Int) = 281474976710656 := rfl; omega)
  obtain ⟨k1, k2⟩ := num_l (l.length : Int) 1 (nB l ++ (numL ((sumT (allT l) : Nat) : Int) 4 ++ t)) (by decide) (by decide) (by omega) (by have : ((256 ^ 1 : Nat) : Int) = 256 := rfl; omega)
  obtain ⟨s1, s2⟩ := read_nB l (numL ((sumT (allT l) : Nat) : Int) 4 ++ t) hs
  obtain ⟨c1, c2⟩ := num_l ((sumT (allT l) : Nat) : Int) 4 t (by decide) (by decide) (by omega) (by have : ((256 ^ 4 : Nat) : Int) = 4294967296 := rfl; omega)
  generalize hH : markS ++ (numL q 6 ++ (numL (l.length : Int) 1 ++ (nB l ++ (numL ((sumT (allT l) : Nat) : Int) 4 ++ t)))) = H at *
  have w1 : hdW H = markS := t1
  have h1 : hd1 H = ⟨numL q 6 ++ (numL (l.length : Int) 1 ++ (nB l ++ (numL ((sumT (allT l) : Nat) : Int) 4 ++ t))), false⟩ := t2
  have h2 : hd2 H = ⟨numL (l.length : Int) 1 ++ (nB l ++ (numL ((sumT (allT l) : Nat) : Int) 4 ++ t)), false⟩ := by rw [hd2, h1]; exact q2
  have h3 : hd3 H = ⟨nB l ++ (numL ((sumT (allT l) : Nat) : Int) 4 ++ t), false⟩ := by rw [hd3, h2]; exact k2
  have eq : hdQ H = q := by rw [hdQ, h1]; exact q1
  have ek : hdK H = l.length := by
    have : ((hdK H : Nat) : Int) = (l.length : Int) := by rw [hdK, h2]; exact k1
    omega
  have es : hdS H = l.map fun s => bare s.n := by rw [hdS, h3, ek]; exact s2
  have ee : rdTo (hd3 H) (hdK H) = ⟨numL ((sumT (allT l) : Nat) : Int) 4 ++ t, false⟩ := by rw [h3, ek]; exact s1
  have ec : hdC H = ((sumT (allT l) : Nat) : Int) := by rw [hdC, ee]; exact c1
  have eE : hdE H = ⟨t, false⟩ := by rw [hdE, ee]; exact c2
  refine ⟨?_, eq, es, ec⟩
  unfold headB
  rw [w1, eE, eq, es, hz, ordB_nums (l := l.map fun s => bare s.n) (m := l) (by rw [List.map_map]; rfl), hr]; rfl
theorem right_ord {K M B q : Int} {l : List St} (h : rightB K M B q l = true) : ordB K M B q l = true := by unfold rightB at h; simp only [Bool.and_eq_true] at h; exact h.1
theorem laid_take {K M B q : Int} {l : List St} (hr : rightB K M B q l = true) {h : ByteArray} (hL : Laid K M B q l h) : takeB K M B h (allT l) = true ∧ takeL K h (allT l) = l.map pr := by
  have hf := right_f hr
  have hk : ∀ s ∈ l, s.d.length = K.toNat := fun s hs => by have := hf.d s hs; omega
  have hn : (hdS h).length = l.length := by rw [hL.s, List.length_map]
  constructor
  · unfold takeB
    have h1 : ((allT l).length : Int) = ((hdS h).length : Int) * K := by
      have := hf.k
      rw [allT_len hk, hn, Int.natCast_mul, Int.toNat_of_nonneg (by omega)]
    have h2 : txtB (allT l) = true := (txtB_iff _).2 fun t ht => by
      obtain ⟨s, hs, ht⟩ := List.mem_flatMap.1 ht
      exact hf.z s hs t ht
    rw [hL.t, decide_eq_true h1, h2, decide_eq_true hL.c.symm]; rfl
  · exact (take_l (by rw [hL.s, List.map_map]; rfl) hk rfl).symm
theorem laid_nil {K M B q : Int} {l : List St} (hr : ordB K M B q l = true) : Laid K M B q l (layS q l) := by
  have := laid hr (t := ⟨#[]⟩) rfl
  rwa [Rm.app_nil] at this
theorem lay_size {K M B q : Int} {l : List St} (hr : ordB K M B q l = true) : (layS q l).size = 15 + l.length := by
  obtain ⟨hK, hq, hn, hs⟩ := ord_facts hr
  have hc := sumT_lt (allT l)
  have e := lay_split q l ⟨#[]⟩
  rw [Rm.app_nil] at e
  have sz : ∀ (n : Int) (W : Nat), 1 ≤ W → W ≤ 7 → 0 ≤ n → n < ((256 ^ W : Nat) : Int) → (numL n (W : Int)).size = W := fun n W h1 h7 h0 h => by
    obtain ⟨k, rfl⟩ := Int.eq_ofNat_of_zero_le h0
    rw [Rm.numL_nat k W h1 h7 (by omega), lineOf_size, Pk.be_length]
  have nb : ∀ l : List St, (∀ s ∈ l, 0 ≤ s.n ∧ s.n < 256) → (nB l).size = l.length := by
    intro l
    induction l with
    | nil => intro _; rfl
    | cons s l ih =>
      intro h
      have h1 := sz s.n 1 (by decide) (by decide) (h s (List.mem_cons_self ..)).1 (by simpa using (h s (List.mem_cons_self ..)).2)
      have h1 : (numL s.n 1).size = 1 := h1
      rw [nB, ByteArray.size_append, h1, ih fun x hx => h x (List.mem_cons_of_mem _ hx), List.length_cons]; omega
  have a1 : (numL q 6).size = 6 := sz q 6 (by decide) (by decide) (by omega) (by have : ((256 ^ 6 : Nat) : Int) = 281474976710656 := rfl; omega)
  have a2 : (numL (l.length : Int) 1).size = 1 := sz _ 1 (by decide) (by decide) (by omega) (by have : ((256 ^ 1 : Nat) : Int) = 256 := rfl; omega)
  have a3 : (numL ((sumT (allT l) : Nat) : Int) 4).size = 4 := sz _ 4 (by decide) (by decide) (by omega) (by have : ((256 ^ 4 : Nat) : Int) = 4294967296 := rfl; omega)
  have a4 : markS.size = 4 := rfl
  rw [e]
  simp only [ByteArray.size_append, a1, a2, a3, a4, nb l hs]
  have : (⟨#[]⟩ : ByteArray).size = 0 := rfl
  omega
end Go.Proofs.YtdbjfofnkijmoaaDoor
