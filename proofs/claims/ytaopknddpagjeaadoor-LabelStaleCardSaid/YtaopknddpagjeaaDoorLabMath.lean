/- label: labels, what is right, how they are laid and taken up; plain. -/
import Derived.Test.YtaopknddpagjeaaDoorRq
import Derived.Test.YtaopknddpagjeaaDoorGeoWalk2
namespace Go.Proofs.YtaopknddpagjeaaDoor
open Go.RowKit
set_option linter.unusedVariables false
set_option linter.unusedSimpArgs false

/-- A label. -/
structure Lbl where
  i : Int
  s : Int
  g : Int
  k : Int
  m : Int
  b : Int
  st : List Int
  bo : List Int
  cu : List Int
deriving DecidableEq
def noLbl : Lbl := ⟨0, 0, 0, 0, 0, 0, [], [], []⟩
namespace Lb
def wi (n lo hi : Int) : Bool := decide (lo ≤ n ∧ n ≤ hi)
def areB (l : List Int) (n lo hi : Int) : Bool := decide ((l.length : Int) = n) && l.all fun x => wi x lo hi
def nS (x : Lbl) : Int := gSlots x.k x.m x.b
def nT (x : Lbl) : Int := gStripes x.k x.m x.b
def rightB (x : Lbl) : Bool := wi x.i 1 65535 && (wi x.s 0 (nS x - 1) && (wi x.g 1 1099511627776 && (areB x.st (nS x) 0 2 && (areB x.bo (nS x) 0 x.g && areB x.cu (nS x) 0 (nT x)))))
structure Rt (x : Lbl) : Prop where
  i : 1 ≤ x.i ∧ x.i ≤ 65535
  s : 0 ≤ x.s ∧ x.s < nS x
  g : 1 ≤ x.g ∧ x.g ≤ 1099511627776
  st : (x.st.length : Int) = nS x
  bo : (x.bo.length : Int) = nS x
  cu : (x.cu.length : Int) = nS x
  sts : ∀ n ∈ x.st, 0 ≤ n ∧ n ≤ 2
  bos : ∀ n ∈ x.bo, 0 ≤ n ∧ n ≤ x.g
  cus : ∀ n ∈ x.cu, 0 ≤ n ∧ n ≤ nT x
theorem areB_iff (l : List Int) (n lo hi : Int) : areB l n lo hi = true ↔ (l.length : Int) = n ∧ ∀ x ∈ l, lo ≤ x ∧ x ≤ hi := by
  unfold areB wi
  rw [Bool.and_eq_true, decide_eq_true_eq, List.all_eq_true]
  exact and_congr_right fun _ => forall_congr' fun x => imp_congr_right fun _ => decide_eq_true_iff
theorem right_iff (x : Lbl) : rightB x = true ↔ Rt x := by
  unfold rightB
  simp only [Bool.and_eq_true, areB_iff, wi, decide_eq_true_eq]
  constructor
  · rintro ⟨h1, h2, h3, ⟨h4, h5⟩, ⟨h6, h7⟩, h8, h9⟩
    exact ⟨h1, ⟨h2.1, by omega⟩, h3, h4, h6, h8, h5, h7, h9⟩
  · intro h
    exact ⟨h.i, ⟨h.s.1, by have := h.s.2; omega⟩, h.g, ⟨h.st, h.sts⟩, ⟨h.bo, h.bos⟩, h.cu, h.cus⟩
theorem Rt.geo {x : Lbl} (h : Rt x) : gR x.k x.m x.b = true := by
  have := h.s
  unfold nS gSlots at this
  cases e : gR x.k x.m x.b with
  | true => rfl
  | false => rw [e] at this; simp at this; omega
theorem Rt.n {x : Lbl} (h : Rt x) : nS x = x.k + x.m ∧ 2 ≤ nS x ∧ nS x ≤ 7 ∧ 1 ≤ nT x ∧ nT x ≤ 200 := by
  have hg := h.geo
  obtain ⟨h1, h2, h3, h4, h5, h6⟩ := gR_true hg
  have := div_rng ⟨h1, h2⟩ ⟨h5, h6⟩
  unfold nS nT gSlots gStripes
  rw [hg, if_pos rfl, if_pos rfl]
  omega
/-- Numbers, and in how many bytes. -/
def heads (x : Lbl) : List (Int × Nat) := [(x.i, 2), (x.s, 1), (x.k, 1), (x.m, 1), (x.b, 1), (x.g, 6)]
def tails : List Int → List Int → List Int → List (Int × Nat)
  | a :: st, b :: bo, c :: cu => (a, 1) :: (b, 6) :: (c, 1) :: tails st bo cu
  | _, _, _ => []
def items (x : Lbl) : List (Int × Nat) := heads x ++ tails x.st x.bo x.cu
def encI : List (Int × Nat) → ByteArray
  | [] => ⟨#[]⟩
  | p :: l => numL p.1 (p.2 : Int) ++ encI l
theorem encI_append (l m : List (Int × Nat)) : encI (l ++ m) = encI l ++ encI m := by
  induction l with
  | nil => rw [List.nil_append, encI, Rm.nil_app]
  | cons a l ih => rw [List.cons_append, encI, encI, ih, Rm.app_assoc]
def mark : ByteArray := ⟨#[83, 84, 86, 49]⟩
def putS (x : Lbl) : ByteArray := mark ++ encI (items x)
def putL (x : Lbl) : ByteArray := if rightB x then putS x else ⟨#[]⟩
def putE (x : Lbl) : Int := if rightB x then 0 else 100
/-- A number that fits its bytes. -/
def Fits (p : Int × Nat) : Prop := 1 ≤ p.2 ∧ p.2 ≤ 7 ∧ 0 ≤ p.1 ∧ p.1 < ((256 ^ p.2 : Nat) : Int)
theorem heads_fit {x : Lbl} (h : Rt x) : ∀ p ∈ heads x, Fits p := by
  obtain ⟨h1, h2, h3, h4, h5, h6⟩ := gR_true h.geo
  have hi := h.i
  have hs := h.s
  have hg := h.g
  have hn := h.n
  intro p hp
  simp [heads] at hp
  rcases hp with rfl | rfl | rfl | rfl | rfl | rfl <;> (refine ⟨Nat.le_of_ble_eq_true rfl, Nat.le_of_ble_eq_true rfl, ?_, ?_⟩ <;> simp <;> omega)
theorem tails_fit : ∀ {st bo cu : List Int}, (∀ n ∈ st, 0 ≤ n ∧ n < 256) → (∀ n ∈ bo, 0 ≤ n ∧ n < 281474976710656) → (∀ n ∈ cu, 0 ≤ n ∧ n < 256) → ∀ p ∈ tails st bo cu, Fits p
  | a :: st, b :: bo, c :: cu, h1, h2, h3, p, hp => by
    have ha := h1 a (by simp)
    have hb := h2 b (by simp)
    have hc := h3 c (by simp)
    simp only [tails, List.mem_cons] at hp
    rcases hp with rfl | rfl | rfl | hp
    · exact ⟨Nat.le_of_ble_eq_true rfl, Nat.le_of_ble_eq_true rfl, ha.1, by simpa using ha.2⟩
    · exact ⟨Nat.le_of_ble_eq_true rfl, Nat.le_of_ble_eq_true rfl, hb.1, by simpa using hb.2⟩
    · exact ⟨Nat.le_of_ble_eq_true rfl, Nat.le_of_ble_eq_true rfl, hc.1, by simpa using hc.2⟩
    · exact tails_fit (fun n hn => h1 n (List.mem_cons_of_mem _ hn)) (fun n hn => h2 n (List.mem_cons_of_mem _ hn)) (fun n hn => h3 n (List.mem_cons_of_mem _ hn)) p hp
  | [], _, _, _, _, _, p, hp => by simp [tails] at hp
  | _ :: _, [], _, _, _, _, p, hp => by simp [tails] at hp
  | _ :: _, _ :: _, [], _, _, _, p, hp => by simp [tails] at hp
theorem items_fit {x : Lbl} (h : Rt x) : ∀ p ∈ items x, Fits p := by
  intro p hp
  have hn := h.n
  have hg := h.g
  rcases List.mem_append.1 hp with hp | hp
  · exact heads_fit h p hp
  · exact tails_fit (fun n hn' => by have := h.sts n hn'; omega) (fun n hn' => by have := h.bos n hn'; omega) (fun n hn' => by have := h.cus n hn'; omega) p hp
theorem encI_size (l : List (Int × Nat)) (h : ∀ p ∈ l, p.2 ≤ 7) : (encI l).size ≤ 7 * l.length := by
  induction l with
  | nil => exact Nat.zero_le _
  | cons p l ih =>
    have h1 : (numL p.1 (p.2 : Int)).size ≤ 7 := by
      rw [numL]; split
      · rw [lineOf_size, Pk.be_length, Int.toNat_natCast]; exact h p (by simp)
      · exact Nat.zero_le _
    have := ih fun q hq => h q (List.mem_cons_of_mem _ hq)
    rw [encI, ByteArray.size_append, List.length_cons]; omega
theorem tails_len : ∀ {st bo cu : List Int} {n : Nat}, st.length = n → bo.length = n → cu.length = n → (tails st bo cu).length = 3 * n
  | [], bo, cu, n, h1, h2, h3 => by simp at h1; subst h1; simp [tails]
  | a :: st, b :: bo, c :: cu, n, h1, h2, h3 => by
    simp at h1 h2 h3
    have := tails_len (n := n - 1) (st := st) (bo := bo) (cu := cu) (by omega) (by omega) (by omega)
    simp only [tails, List.length_cons, this]; omega
  | _ :: _, [], _, n, h1, h2, h3 => by simp at h1 h2; omega
  | _ :: _, _ :: _, [], n, h1, h2, h3 => by simp at h1 h3; omega
/-- Numbers read one after the other. -/
def rList : List Nat → RS → List Int
  | [], _ => []
  | w :: l, p => ((rNum p (w : Int) : Nat) : Int) :: rList l (rNumR p (w : Int))
def rListR : List Nat → RS → RS
  | [], p => p
  | w :: l, p => rListR l (rNumR p (w : Int))
theorem rList_len : ∀ (l : List Nat) (p : RS), (rList l p).length = l.length
  | [], _ => rfl
  | w :: l, p => by rw [rList, List.length_cons, List.length_cons, rList_len l]
theorem rListR_size : ∀ (l : List Nat) (p : RS), (rListR l p).s.size ≤ p.s.size
  | [], _ => Nat.le_refl _
  | w :: l, p => Nat.le_trans (rListR_size l _) (rNumR_size _ _)
theorem rList_append : ∀ (l m : List Nat) (p : RS), rList (l ++ m) p = rList l p ++ rList m (rListR l p) ∧ rListR (l ++ m) p = rListR m (rListR l p)
  | [], m, p => ⟨rfl, rfl⟩
  | w :: l, m, p => by
    obtain ⟨h1, h2⟩ := rList_append l m (rNumR p (w : Int))
    exact ⟨by rw [List.cons_append, rList, h1]; rfl, by rw [List.cons_append, rListR, h2]; rfl⟩
theorem rList_laid : ∀ (l : List (Int × Nat)) (q : ByteArray), (∀ p ∈ l, Fits p) → rList (l.map (·.2)) ⟨encI l ++ q, false⟩ = l.map (·.1) ∧ rListR (l.map (·.2)) ⟨encI l ++ q, false⟩ = ⟨q, false⟩
  | [], q, _ => ⟨rfl, by show (⟨(⟨#[]⟩ : ByteArray) ++ q, false⟩ : RS) = _; rw [Rm.nil_app]⟩
  | p :: l, q, h => by
    obtain ⟨h1, h2, h3, h4⟩ := h p (by simp)
    obtain ⟨e1, e2⟩ := num_l p.1 p.2 (encI l ++ q) h1 h2 h3 h4
    obtain ⟨f1, f2⟩ := rList_laid l q fun x hx => h x (List.mem_cons_of_mem _ hx)
    rw [encI, Rm.app_assoc]
    simp only [List.map_cons, rList, rListR]
    rw [e1, e2, f1, f2]
    exact ⟨rfl, rfl⟩
def hW : List Nat := [2, 1, 1, 1, 1, 6]
def tW : Nat → List Nat
  | 0 => []
  | n + 1 => 1 :: 6 :: 1 :: tW n
theorem tW_len (n : Nat) : (tW n).length = 3 * n := by induction n with
  | zero => rfl
  | succ n ih => simp only [tW, List.length_cons, ih]; omega
/-- Every third, from the first, the second, the third on. -/
def th0 : List Int → List Int
  | a :: _ :: _ :: l => a :: th0 l
  | _ => []
def th1 : List Int → List Int
  | _ :: b :: _ :: l => b :: th1 l
  | _ => []
def th2 : List Int → List Int
  | _ :: _ :: c :: l => c :: th2 l
  | _ => []
def ofTail (h t : List Int) : Lbl := ⟨h.getD 0 0, h.getD 1 0, h.getD 5 0, h.getD 2 0, h.getD 3 0, h.getD 4 0, th0 t, th1 t, th2 t⟩
theorem tails_w : ∀ {st bo cu : List Int} {n : Nat}, st.length = n → bo.length = n → cu.length = n → (tails st bo cu).map (·.2) = tW n ∧ th0 ((tails st bo cu).map (·.1)) = st ∧ th1 ((tails st bo cu).map (·.1)) = bo ∧ th2 ((tails st bo cu).map (·.1)) = cu
  | [], bo, cu, n, h1, h2, h3 => by
    simp at h1; subst h1
    rw [List.eq_nil_of_length_eq_zero h2, List.eq_nil_of_length_eq_zero h3]
    exact ⟨rfl, rfl, rfl, rfl⟩
  | a :: st, b :: bo, c :: cu, n, h1, h2, h3 => by
    simp at h1 h2 h3
    subst h1
    obtain ⟨e1, e2, e3, e4⟩ := tails_w (n := st.length) (st := st) (bo := bo) (cu := cu) rfl (by omega) (by omega)
    simp only [tails, List.map_cons, tW, th0, th1, th2]
    rw [e1, e2, e3, e4]
    exact ⟨rfl, rfl, rfl, rfl⟩
  | _ :: _, [], _, n, h1, h2, h3 => by simp at h1 h2; omega
  | _ :: _, _ :: _, [], n, h1, h2, h3 => by simp at h1 h3; omega
def q0 (s : ByteArray) : RS := rTxtR ⟨s, false⟩ 4
def word (s : ByteArray) : ByteArray := rTxt ⟨s, false⟩ 4
def hd (s : ByteArray) : List Int := rList hW (q0 s)
def q1 (s : ByteArray) : RS := rListR hW (q0 s)
def slotsN (h : List Int) : Nat := (gSlots (h.getD 2 0) (h.getD 3 0) (h.getD 4 0)).toNat
def nN (s : ByteArray) : Nat := slotsN (hd s)
def gotL (s : ByteArray) : Lbl := ofTail (hd s) (rList (tW (nN s)) (q1 s))
def q2 (s : ByteArray) : RS := rListR (tW (nN s)) (q1 s)
def endsB (p : RS) : Bool := !p.b && zeroB p.s
def getB (s : ByteArray) : Bool := decide (word s = mark) && (rightB (gotL s) && endsB (q2 s))
def getL (s : ByteArray) : Lbl := if getB s then gotL s else noLbl
def getE (s : ByteArray) : Int := if getB s then 0 else 100
theorem hd_map (x : Lbl) : (heads x).map (·.2) = hW ∧ (heads x).map (·.1) = [x.i, x.s, x.k, x.m, x.b, x.g] := ⟨rfl, rfl⟩
theorem Rt.nat {x : Lbl} (h : Rt x) : ∃ n : Nat, nS x = (n : Int) ∧ x.st.length = n ∧ x.bo.length = n ∧ x.cu.length = n ∧ 2 ≤ n ∧ n ≤ 7 := by
  have hn := h.n
  have h1 := h.st
  have h2 := h.bo
  have h3 := h.cu
  exact ⟨x.st.length, by omega, rfl, by omega, by omega, by omega, by omega⟩
/-- Get undoes Put, whatever noughts stand behind. -/
theorem get_laid {x : Lbl} (h : rightB x = true) (z : ByteArray) (hz : zeroB z = true) : getB (putL x ++ z) = true ∧ getL (putL x ++ z) = x := by
  have hR := (right_iff x).1 h
  obtain ⟨n, hn, e1, e2, e3, _, _⟩ := hR.nat
  obtain ⟨t1, t2, t3, t4⟩ := tails_w e1 e2 e3
  have hp : putL x = mark ++ encI (items x) := by rw [putL, if_pos h]; rfl
  have a := txt_l mark (encI (items x) ++ z) 4 rfl
  have hf := items_fit hR
  have b := rList_laid (items x) z hf
  have hi : (items x).map (·.2) = hW ++ tW n := by rw [items, List.map_append, t1]; rfl
  have hv : (items x).map (·.1) = [x.i, x.s, x.k, x.m, x.b, x.g] ++ (tails x.st x.bo x.cu).map (·.1) := by rw [items, List.map_append]; rfl
  rw [hi, hv] at b
  obtain ⟨b1, b2⟩ := b
  obtain ⟨c1, c2⟩ := rList_append hW (tW n) ⟨encI (items x) ++ z, false⟩
  rw [c1] at b1
  rw [c2] at b2
  have hl : (rList hW ⟨encI (items x) ++ z, false⟩).length = 6 := rList_len _ _
  obtain ⟨d1, d2⟩ := List.append_inj b1 hl
  have eq0 : q0 (putL x ++ z) = ⟨encI (items x) ++ z, false⟩ := by rw [q0, hp, Rm.app_assoc, a.2]
  have ew : word (putL x ++ z) = mark := by rw [word, hp, Rm.app_assoc, a.1]
  have eh : hd (putL x ++ z) = [x.i, x.s, x.k, x.m, x.b, x.g] := by rw [hd, eq0, d1]
  have eN : nN (putL x ++ z) = n := by
    rw [nN, slotsN, eh]
    show (gSlots x.k x.m x.b).toNat = n
    rw [show gSlots x.k x.m x.b = (n : Int) from hn]; rfl
  have eq1 : q1 (putL x ++ z) = rListR hW ⟨encI (items x) ++ z, false⟩ := by rw [q1, eq0]
  have eg : gotL (putL x ++ z) = x := by
    rw [gotL, eN, eh, eq1, d2, ofTail, t2, t3, t4]; rfl
  have eq2 : q2 (putL x ++ z) = ⟨z, false⟩ := by rw [q2, eN, eq1, b2]
  have hb : getB (putL x ++ z) = true := by
    rw [getB, ew, eg, h, eq2, endsB, hz]; simp
  exact ⟨hb, by rw [getL, if_pos hb, eg]⟩
theorem put_inj {x y : Lbl} (hx : rightB x = true) (hy : rightB y = true) : putL x = putL y ↔ x = y := by
  constructor
  · intro e
    have h1 := (get_laid hx ⟨#[]⟩ rfl).2
    have h2 := (get_laid hy ⟨#[]⟩ rfl).2
    rw [← h1, e, h2]
  · intro e; rw [e]
end Lb
end Go.Proofs.YtaopknddpagjeaaDoor
