/- dir: volumes, names, and what is told of them; plain. -/
import Derived.Test.YtfmgoamgcjipkaaRdMath
import Derived.Test.YtfmgoamgcjipkaaSk
namespace Go.Proofs.Ytfmgoamgcjipkaa
open Go.RowKit
set_option linter.unusedVariables false
set_option linter.unusedSimpArgs false

/-- A volume. -/
structure Vol where
  n : ByteArray
  s : Int
  r : Int
def Vol.cells (x : Vol) : List Value := [.string x.n, .int .i64 x.s, .int .i64 x.r]
def Vol.v (x : Vol) : Value := .agg #[.string x.n, .int .i64 x.s, .int .i64 x.r]
def noVol : Vol := ⟨⟨#[]⟩, 0, 0⟩
instance : Inhabited Vol := ⟨noVol⟩
theorem vol_ext {a b : Vol} (h1 : a.n = b.n) (h2 : a.s = b.s) (h3 : a.r = b.r) : a = b := by cases a; cases b; simp_all
instance : DecidableEq Vol := fun a b =>
  if h : a.n = b.n ∧ a.s = b.s ∧ a.r = b.r then isTrue (vol_ext h.1 h.2.1 h.2.2) else isFalse fun e => h (by rw [e]; exact ⟨rfl, rfl, rfl⟩)
def volE : Enc Vol := ⟨3, Vol.cells, by decide, fun _ => rfl, fun a u h => by
  simp [Vol.cells] at h; rcases h with rfl | rfl | rfl <;> rfl⟩
namespace Dr
def lt (a b : ByteArray) : Bool := Op.bytesLess a.toList b.toList
theorem bl_irr : ∀ x : List UInt8, Op.bytesLess x x = false
  | [] => rfl
  | a :: x => by simp [Op.bytesLess, bl_irr x]
theorem bl_trans : ∀ {x y z : List UInt8}, Op.bytesLess x y = true → Op.bytesLess y z = true → Op.bytesLess x z = true
  | _, _, [], _, h => by unfold Op.bytesLess at h; cases h
  | _, [], _ :: _, h, _ => by unfold Op.bytesLess at h; cases h
  | [], _ :: _, _ :: _, _, _ => by unfold Op.bytesLess; rfl
  | a :: x, b :: y, c :: z, h1, h2 => by
    simp only [Op.bytesLess, Bool.or_eq_true, decide_eq_true_eq, Bool.and_eq_true, beq_iff_eq] at *
    rcases h1 with h1 | ⟨rfl, h1⟩ <;> rcases h2 with h2 | ⟨rfl, h2⟩
    · exact .inl (UInt8.lt_trans h1 h2)
    · exact .inl h1
    · exact .inl h2
    · exact .inr ⟨rfl, bl_trans h1 h2⟩
theorem bl_tri : ∀ {x y : List UInt8}, Op.bytesLess x y = false → x ≠ y → Op.bytesLess y x = true
  | [], [], _, h => absurd rfl h
  | [], _ :: _, h, _ => by unfold Op.bytesLess at h; cases h
  | _ :: _, [], _, _ => by unfold Op.bytesLess; rfl
  | a :: x, b :: y, h, hn => by
    simp only [Op.bytesLess, Bool.or_eq_true, decide_eq_true_eq, Bool.and_eq_true, beq_iff_eq, Bool.or_eq_false_iff, decide_eq_false_iff_not, Bool.and_eq_false_iff] at *
    obtain ⟨h1, h2⟩ := h
    by_cases e : a = b
    · subst e
      refine .inr ⟨rfl, bl_tri ?_ (fun e => hn (by rw [e]))⟩
      rcases h2 with h2 | h2
      · simp at h2
      · exact h2
    · refine .inl ?_
      have : ¬ a.toNat < b.toNat := h1
      have hne : a.toNat ≠ b.toNat := fun x => e (UInt8.toNat_inj.1 x)
      show b.toNat < a.toNat
      omega
theorem lt_irr (a : ByteArray) : lt a a = false := bl_irr _
theorem lt_trans {a b c : ByteArray} (h1 : lt a b = true) (h2 : lt b c = true) : lt a c = true := bl_trans h1 h2
theorem lt_tri {a b : ByteArray} (h : lt a b = false) (hn : a ≠ b) : lt b a = true := bl_tri h (fun e => hn (Go.WideShapes.bytes_inj (by rw [← Lib.toList_data, ← Lib.toList_data]; exact e)))
theorem lt_asym {a b : ByteArray} (h : lt a b = true) : lt b a = false := by
  cases e : lt b a with
  | false => rfl
  | true => have := lt_trans h e; rw [lt_irr] at this; cases this
theorem lt_ne {a b : ByteArray} (h : lt a b = true) : a ≠ b := fun e => by rw [e, lt_irr] at h; cases h
/-- The program's 'less or the same', the other way round. -/
theorem le_lt (a b : ByteArray) : (lt a b || a.toList == b.toList) = !lt b a := by
  by_cases e : a = b
  · subst e; simp [lt_irr]
  · have he : (a.toList == b.toList) = false := by
      rw [beq_eq_false_iff_ne]; intro x; exact e (Go.WideShapes.bytes_inj (by rw [← Lib.toList_data, ← Lib.toList_data]; exact x))
    rw [he, Bool.or_false]
    cases h : lt a b with
    | true => rw [lt_asym h]; rfl
    | false => rw [lt_tri h e]; rfl
def isL (c : Nat) : Bool := decide (97 ≤ c ∧ c ≤ 122)
def isD (c : Nat) : Bool := decide (48 ≤ c ∧ c ≤ 57)
def chB (s : ByteArray) (i : Nat) : Bool := isL (s.data.toList.getD i 0).toNat || isD (s.data.toList.getD i 0).toNat
def chTo (s : ByteArray) (k : Nat) : Bool := (List.range k).all (chB s)
theorem chTo_succ (s : ByteArray) (k : Nat) : chTo s (k + 1) = (chTo s k && chB s k) := by simp [chTo, List.range_succ, List.all_append]
def nameB (s : ByteArray) : Bool := decide (1 ≤ s.size ∧ s.size ≤ 6) && (isL (s.data.toList.getD 0 0).toNat && chTo s s.size)
theorem nameB_size {s : ByteArray} (h : nameB s = true) : 1 ≤ s.size ∧ s.size ≤ 6 := by unfold nameB at h; rw [Bool.and_eq_true] at h; exact of_decide_eq_true h.1
def volB (blocks : Int) (v : Vol) : Bool := nameB v.n && (decide (0 ≤ v.s ∧ v.s ≤ 4096) && decide (v.r = 0 ∨ 3 ≤ v.r ∧ v.r < blocks))
def at_ (l : List Vol) (i : Nat) : Vol := l.getD i noVol
def okB (blocks : Int) (l : List Vol) (i : Nat) : Bool := (decide (i = 0) || lt (at_ l (i - 1)).n (at_ l i).n) && volB blocks (at_ l i)
def okTo (blocks : Int) (l : List Vol) (k : Nat) : Bool := (List.range k).all (okB blocks l)
theorem okTo_succ (blocks : Int) (l : List Vol) (k : Nat) : okTo blocks l (k + 1) = (okTo blocks l k && okB blocks l k) := by simp [okTo, List.range_succ, List.all_append]
def limB (blocks : Int) (l : List Vol) : Bool := decide (8 ≤ blocks ∧ blocks ≤ 200 ∧ l.length ≤ 8)
def rightB (blocks : Int) (l : List Vol) : Bool := limB blocks l && okTo blocks l l.length
theorem all_upto {f : Nat → Bool} {k n : Nat} (h : k ≤ n) (hf : (List.range n).all f = true) : (List.range k).all f = true := by
  rw [List.all_eq_true] at *
  intro x hx
  exact hf x (by simp at *; omega)
theorem all_bad {f : Nat → Bool} {k n : Nat} (h : k < n) (hf : f k = false) : (List.range n).all f = false := by
  rw [List.all_eq_false]
  exact ⟨k, by simpa using h, by rw [hf]; decide⟩
/-- Names that rise. -/
def Rises (l : List Vol) : Prop := l.Pairwise fun a b => lt a.n b.n = true
theorem rises_of (l : List Vol) (h : ∀ i, 0 < i → i < l.length → lt (at_ l (i - 1)).n (at_ l i).n = true) : Rises l := by
  induction l with
  | nil => exact List.Pairwise.nil
  | cons a l ih =>
    have hl : Rises l := ih fun i h0 hi => by
      have := h (i + 1) (by omega) (by simp; omega)
      rw [show i + 1 - 1 = (i - 1) + 1 by omega] at this
      simpa [at_] using this
    refine List.Pairwise.cons (fun b hb => ?_) hl
    cases l with
    | nil => cases hb
    | cons c l =>
      have h1 : lt a.n c.n = true := by have := h 1 (by decide) (by simp); simpa [at_] using this
      rcases List.mem_cons.1 hb with rfl | hb
      · exact h1
      · exact lt_trans h1 ((List.pairwise_cons.1 hl).1 b hb)
theorem rises_at {l : List Vol} (h : Rises l) {i j : Nat} (hij : i < j) (hj : j < l.length) : lt (at_ l i).n (at_ l j).n = true := by
  have := List.pairwise_iff_getElem.1 h i j (by omega) hj hij
  simpa [at_, List.getD_eq_getElem?_getD, hj, show i < l.length by omega] using this
theorem rightB_iff (blocks : Int) (l : List Vol) : rightB blocks l = true ↔ (8 ≤ blocks ∧ blocks ≤ 200 ∧ l.length ≤ 8) ∧ (∀ v ∈ l, volB blocks v = true) ∧ Rises l := by
  unfold rightB limB okTo
  rw [Bool.and_eq_true, decide_eq_true_eq, List.all_eq_true]
  constructor
  · rintro ⟨h1, h2⟩
    refine ⟨h1, fun v hv => ?_, rises_of l fun i h0 hi => ?_⟩
    · obtain ⟨i, hi, rfl⟩ := List.getElem_of_mem hv
      have := h2 i (by simpa using hi)
      unfold okB at this
      rw [Bool.and_eq_true] at this
      simpa [at_, List.getD_eq_getElem?_getD, hi] using this.2
    · have := h2 i (by simpa using hi)
      unfold okB at this
      simp only [Bool.and_eq_true, Bool.or_eq_true, decide_eq_true_eq] at this
      rcases this.1 with h | h
      · omega
      · exact h
  · rintro ⟨h1, h2, h3⟩
    refine ⟨h1, fun i hi => ?_⟩
    simp at hi
    unfold okB
    simp only [Bool.and_eq_true, Bool.or_eq_true, decide_eq_true_eq]
    refine ⟨?_, ?_⟩
    · by_cases h0 : i = 0
      · exact .inl h0
      · exact .inr (rises_at h3 (by omega) hi)
    · have := h2 l[i] (List.getElem_mem hi)
      simpa [at_, List.getD_eq_getElem?_getD, hi] using this
/-- Where a name stands. -/
def findN (l : List Vol) (s : ByteArray) : Nat := l.findIdx fun v => decide (v.n = s)
def findI (l : List Vol) (s : ByteArray) : Int := if findN l s < l.length then (findN l s : Int) else -1
theorem findN_le (l : List Vol) (s : ByteArray) : findN l s ≤ l.length := List.findIdx_le_length
theorem at_get {l : List Vol} {i : Nat} (h : i < l.length) : at_ l i = l[i] := by simp [at_, List.getD_eq_getElem?_getD, h]
theorem idx_of {p : Vol → Bool} {l : List Vol} {k : Nat} (hk : k < l.length) (h : p (at_ l k) = true) (hb : ∀ j, j < k → p (at_ l j) = false) : l.findIdx p = k := by
  rw [List.findIdx_eq hk]
  exact ⟨by rw [← at_get hk]; exact h, fun j hj => by rw [← at_get (by omega)]; rw [hb j hj]⟩
theorem idx_none {p : Vol → Bool} {l : List Vol} (hb : ∀ j, j < l.length → p (at_ l j) = false) : l.findIdx p = l.length := by
  rw [List.findIdx_eq_length]
  intro x hx
  obtain ⟨i, hi, rfl⟩ := List.getElem_of_mem hx
  rw [← at_get hi]; exact hb i hi
theorem idx_at {p : Vol → Bool} {l : List Vol} (h : l.findIdx p < l.length) : p (at_ l (l.findIdx p)) = true := by rw [at_get h]; exact List.findIdx_getElem
theorem idx_bad {p : Vol → Bool} {l : List Vol} {j : Nat} (h : j < l.findIdx p) : p (at_ l j) = false := by
  have hl : j < l.length := Nat.lt_of_lt_of_le h List.findIdx_le_length
  rw [at_get hl]
  have := List.not_of_lt_findIdx h
  simpa using this
theorem findN_at {l : List Vol} {s : ByteArray} (h : findN l s < l.length) : (at_ l (findN l s)).n = s := of_decide_eq_true (idx_at h)
theorem findN_of {l : List Vol} {s : ByteArray} {k : Nat} (hk : k < l.length) (h : (at_ l k).n = s) (hb : ∀ j, j < k → (at_ l j).n ≠ s) : findN l s = k :=
  idx_of hk (decide_eq_true h) fun j hj => decide_eq_false (hb j hj)
theorem findN_none {l : List Vol} {s : ByteArray} (hb : ∀ v ∈ l, v.n ≠ s) : findN l s = l.length :=
  idx_none fun j hj => decide_eq_false (by rw [at_get hj]; exact hb _ (List.getElem_mem hj))
theorem findN_mem {l : List Vol} {s : ByteArray} (h : findN l s = l.length) : ∀ v ∈ l, v.n ≠ s := fun v hv => by
  have := (List.findIdx_eq_length.1 h) v hv
  exact of_decide_eq_false this
theorem findI_bad {l : List Vol} {s : ByteArray} (h : ¬ findN l s < l.length) : findI l s = -1 := if_neg h
theorem findI_good {l : List Vol} {s : ByteArray} (h : findN l s < l.length) : findI l s = (findN l s : Int) := if_pos h
/-- Where a name goes. -/
def putN (l : List Vol) (s : ByteArray) : Nat := l.findIdx fun o => lt s o.n
theorem putN_le (l : List Vol) (s : ByteArray) : putN l s ≤ l.length := List.findIdx_le_length
def insL (l : List Vol) (v : Vol) : List Vol := l.take (putN l v.n) ++ v :: l.drop (putN l v.n)
def addE (l : List Vol) (v : Vol) : Int := if nameB v.n then (if findN l v.n < l.length then 182 else if 8 ≤ l.length then 184 else 0) else 181
def addL (l : List Vol) (v : Vol) : List Vol := if addE l v = 0 then insL l v else []
def chgE (l : List Vol) (v : Vol) : Int := if findN l v.n < l.length then 0 else 183
def chgL (l : List Vol) (v : Vol) : List Vol := if findN l v.n < l.length then l.set (findN l v.n) v else []
def remE (l : List Vol) (s : ByteArray) : Int := if findN l s < l.length then 0 else 183
def remL (l : List Vol) (s : ByteArray) : List Vol := if findN l s < l.length then l.eraseIdx (findN l s) else []
/-- The same, from the front. -/
def insS : List Vol → Vol → List Vol
  | [], v => [v]
  | o :: l, v => if lt v.n o.n then v :: o :: l else o :: insS l v
theorem ins_eq : ∀ (l : List Vol) (v : Vol), insL l v = insS l v
  | [], v => rfl
  | o :: l, v => by
    rw [insS]
    by_cases h : lt v.n o.n = true
    · rw [if_pos h]; simp [insL, putN, List.findIdx_cons, h]
    · have h' : lt v.n o.n = false := by simpa using h
      rw [if_neg h, ← ins_eq l v]; simp [insL, putN, List.findIdx_cons, h']
theorem ins_mem (l : List Vol) (v x : Vol) : x ∈ insS l v ↔ x = v ∨ x ∈ l := by
  induction l with
  | nil => simp [insS]
  | cons o l ih =>
    rw [insS]
    split
    · simp
    · simp [ih]
      constructor
      · rintro (h | h | h) <;> simp [h]
      · rintro (h | h | h) <;> simp [h]
theorem ins_perm (l : List Vol) (v : Vol) : (insS l v).Perm (v :: l) := by
  induction l with
  | nil => exact List.Perm.refl _
  | cons o l ih =>
    rw [insS]
    split
    · exact List.Perm.refl _
    · exact (List.Perm.cons o ih).trans (List.Perm.swap v o l)
theorem ins_len (l : List Vol) (v : Vol) : (insS l v).length = l.length + 1 := by have := (ins_perm l v).length_eq; simpa using this
theorem ins_rises {l : List Vol} {v : Vol} (h : Rises l) (hn : ∀ x ∈ l, x.n ≠ v.n) : Rises (insS l v) := by
  induction l with
  | nil => exact List.pairwise_singleton _ _
  | cons o l ih =>
    have ho := List.pairwise_cons.1 h
    rw [insS]
    by_cases hl : lt v.n o.n = true
    · rw [if_pos hl]
      refine List.Pairwise.cons (fun b hb => ?_) h
      rcases List.mem_cons.1 hb with rfl | hb
      · exact hl
      · exact lt_trans hl (ho.1 b hb)
    · rw [if_neg hl]
      refine List.Pairwise.cons (fun b hb => ?_) (ih ho.2 fun x hx => hn x (List.mem_cons_of_mem _ hx))
      rcases (ins_mem l v b).1 hb with rfl | hb
      · exact lt_tri (by simpa using hl) (fun e => hn o List.mem_cons_self e.symm)
      · exact ho.1 b hb
/-- Lists that rise and have the same are the same. -/
theorem rises_perm : ∀ {l m : List Vol}, Rises l → Rises m → l.Perm m → l = m
  | [], m, _, _, h => (List.nil_perm.1 h).symm ▸ rfl
  | a :: l, [], _, _, h => by have := h.length_eq; simp at this
  | a :: l, b :: m, h1, h2, h => by
    have a1 := List.pairwise_cons.1 h1
    have b1 := List.pairwise_cons.1 h2
    have e : a = b := by
      have ha : a ∈ b :: m := h.subset List.mem_cons_self
      have hb : b ∈ a :: l := h.symm.subset List.mem_cons_self
      rcases List.mem_cons.1 ha with e | ha
      · exact e
      · rcases List.mem_cons.1 hb with e | hb
        · exact e.symm
        · have x := b1.1 a ha
          have y := a1.1 b hb
          rw [lt_asym x] at y; cases y
    subst e
    rw [rises_perm a1.2 b1.2 ((List.perm_cons a).1 h)]
theorem rises_inj {l : List Vol} (h : Rises l) {i j : Nat} (hi : i < l.length) (hj : j < l.length) (e : (at_ l i).n = (at_ l j).n) : i = j := by
  rcases Nat.lt_trichotomy i j with h1 | h1 | h1
  · exact absurd e (lt_ne (rises_at h h1 hj))
  · exact h1
  · exact absurd e.symm (lt_ne (rises_at h h1 hi))
theorem find_here {l : List Vol} (h : Rises l) {i : Nat} (hi : i < l.length) : findN l (at_ l i).n = i :=
  findN_of hi rfl fun j hj e => by have := rises_inj h (by omega) hi e; omega
end Dr
end Go.Proofs.Ytfmgoamgcjipkaa
