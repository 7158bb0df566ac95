/- journal: what is read of a rack; what steps make of one that has power. -/
import Derived.Test.YtfadglcpapiklaaGreatDoorJrnPut
import Derived.Test.YtfadglcpapiklaaGreatDoorLsec
namespace Go.Proofs.YtfadglcpapiklaaGreatDoor
open Go.RowKit
open Rc
set_option linter.unusedVariables false
set_option linter.unusedSimpArgs false
set_option maxRecDepth 100000

theorem seal_ok {i l a : Nat} {p : ByteArray} (m : Made i l a p) : sealE (i : Int) (l : Int) (a : Int) p = 0 ∧ sealL (i : Int) (l : Int) (a : Int) p = secS i l a p := by
  have h : sealOk (i : Int) (l : Int) (a : Int) p = true := by
    have := m.i1; have := m.i2; have := m.l; have := m.a; have := m.q
    unfold sealOk; rw [decide_eq_true_iff]; omega
  exact ⟨by unfold sealE; rw [if_pos h], by unfold sealL; rw [if_pos h]; simp⟩
theorem akE_well {n : Nat} {R : Rk} {x : Int} (h1 : R.off = false) (h2 : R.armed = 0) (hx : 0 ≤ x ∧ x < (n : Int)) : akE n R x = 0 ∧ akR n R x = ⟨R.M, false, R.acts + 1, 0⟩ := by
  have hk : hasK n x = true := by
    obtain ⟨i, rfl⟩ := Int.eq_ofNat_of_zero_le hx.1
    exact hasK_nat (by omega)
  refine ⟨by unfold akE; rw [if_pos hk, if_neg (by rw [h1]; decide), if_neg (by rw [h2]; decide)], ?_⟩
  unfold akR
  rw [if_pos ⟨hk, h1⟩, h2]
  rfl
/-- A read of a sector of a slot gives a text. -/
def Holds (n : Nat) (R : Rk) (x at_ : Int) (s : ByteArray) : Prop := rdRE n R x at_ = 0 ∧ rdRS n R x at_ = s
section
variable {n : Nat} {R : Rk} {i a j : Nat} {p s : ByteArray}
theorem rhE_well {x : Int} (h1 : R.off = false) (hx : 0 ≤ x ∧ x < (n : Int)) : rhE n R x = 0 := by
  have hk : hasK n x = true := by
    obtain ⟨i, rfl⟩ := Int.eq_ofNat_of_zero_le hx.1
    exact hasK_nat (by omega)
  unfold rhE; rw [if_pos hk, if_neg (by rw [h1]; decide)]
theorem holds_of {x : Int} (h1 : R.off = false) (hx : 0 ≤ x ∧ x < (n : Int)) (hal : (R.M x.toNat).fd = false) (hl : a < (R.M x.toNat).L.length) (hs : lastOf ((R.M x.toNat).V (a : Int)) ((R.M x.toNat).L.getD a zero128) = s) : Holds n R x (a : Int) s := by
  have hr := rhE_well h1 hx
  have hh : hasN (R.M x.toNat).L (a : Int) = true := by unfold hasN; simp; omega
  refine ⟨?_, ?_⟩
  · unfold rdRE; rw [if_pos hr]; unfold rdE; rw [if_neg (by rw [hal]; decide), if_pos hh]
  · unfold rdRS; rw [if_pos hr]; unfold rdS; rw [if_neg (by rw [hal]; decide), if_pos hh, Int.toNat_natCast]; exact hs
theorem pad_id (h : p.size = 120) : padB p 120 = p := by
  unfold padB
  rw [Pk.pad_full (by simpa using h)]
  cases p; simp [lineOf]
/-- A sealed sector opens for whom it was sealed. -/
theorem sr_padded {x : Int} (hx : 0 ≤ x) (m : Made i x.toNat a p) (h : Holds n R x (a : Int) (secS i x.toNat a p)) : srB n R (i : Int) x (a : Int) = true ∧ srS n R (i : Int) x (a : Int) = padB p 120 := by
  obtain ⟨y, rfl⟩ := Int.eq_ofNat_of_zero_le hx
  rw [Int.toNat_natCast] at m h
  obtain ⟨o1, o2, o3⟩ := open_sealed m.i1 m.i2 m.l m.a m.q (i : Int) (y : Int) (a : Int)
  rw [decide_eq_true ⟨rfl, rfl, rfl⟩] at o1
  unfold srB srS
  rw [h.1, h.2, o1]
  refine ⟨rfl, ?_⟩
  rw [if_pos rfl]
  unfold openS
  rw [if_pos o1, o2]
/-- One that is for another array, or rotten, or blank, does not. -/
theorem sr_shut {x at_ id : Int} (h : Holds n R x at_ s) (hs : openOk id x at_ s = false) : srB n R id x at_ = false := by
  unfold srB
  rw [h.2, hs, Bool.and_false]
theorem sr_dead {x at_ id : Int} (h : rdRE n R x at_ ≠ 0) : srB n R id x at_ = false := by
  unfold srB
  rw [decide_eq_false h, Bool.false_and]
theorem sec_list (q : ByteArray) : (secS i j a q).data.toList = Sec.secL i j a q.data.toList := by simp [secS, lineOf]
/-- A sector one of whose bytes was turned does not open. -/
theorem rot_shut (m : Made i j a p) {k b : Nat} (hk : k < 128) (hb0 : b ≠ 0) (hb : b < 256) : openOk (i : Int) (j : Int) (a : Int) (rotS (secS i j a p) k b) = false := by
  have hq : p.data.toList.length ≤ 120 := by have := m.q; simpa using this
  have hl := Sec.sec_length i j a hq
  unfold rotS
  rw [sec_list]
  have hne : UInt8.ofNat (((Sec.secL i j a p.data.toList).getD k 0).toNat ^^^ b) ≠ (Sec.secL i j a p.data.toList).getD k 0 := xor_ne _ b hb hb0
  have hT : ∀ t, t ≠ k → ((Sec.secL i j a p.data.toList).set k (UInt8.ofNat (((Sec.secL i j a p.data.toList).getD k 0).toNat ^^^ b))).getD t 0 = (Sec.secL i j a p.data.toList).getD t 0 := fun t ht => by
    rw [List.getD_eq_getElem?_getD, List.getElem?_set_ne (fun e => ht e.symm), ← List.getD_eq_getElem?_getD]
  have hdiff : (Sec.secL i j a p.data.toList).set k (UInt8.ofNat (((Sec.secL i j a p.data.toList).getD k 0).toNat ^^^ b)) ≠ Sec.secL i j a p.data.toList := fun e => hne (by
    have := congrArg (fun l => l.getD k 0) e
    simp only [List.getD_eq_getElem?_getD, List.getElem?_set_self (show k < (Sec.secL i j a p.data.toList).length by omega), Option.getD_some] at this
    rw [List.getD_eq_getElem?_getD]; exact this)
  obtain ⟨f, hf, hfk, hfk2⟩ : ∃ f, (f ≤ 120 ∨ f = 124) ∧ f ≤ k ∧ k < f + 4 := by
    by_cases h1 : k ≤ 120
    · exact ⟨k, .inl h1, Nat.le_refl _, by omega⟩
    · by_cases h2 : k < 124
      · exact ⟨120, .inl (Nat.le_refl _), by omega, by omega⟩
      · exact ⟨124, .inr rfl, by omega, by omega⟩
  exact turn_shut m _ (by rw [List.length_set]; exact hl) hf (fun t ht => hT t (by omega)) hdiff
theorem zero_shut128 (id x at_ : Int) : openOk id x at_ zero128 = false := zero_shut id x at_ 128
end
theorem flush_len (L : List ByteArray) (V : Int → List ByteArray) : (flush L V).length = L.length := flL_len _ _ _
section
variable {a : Nat}
theorem flush_get (L : List ByteArray) (V : Int → List ByteArray) (h : a < L.length) : (flush L V).getD a zero128 = lastOf (V (a : Int)) (L.getD a zero128) := by
  unfold flush flL
  rw [List.getD_eq_getElem?_getD, List.getElem?_map, List.getElem?_range h]
  rfl
end
theorem flM_eq {Mm : Mst} (h1 : Mm.fd = false) : flM Mm = ⟨false, flush Mm.L Mm.V, noV⟩ := by
  unfold flM
  rw [if_neg (by rw [h1]; decide)]
/-- What a sector of a slot holds: what was written last, else what lasts. -/
def topS (R : Rk) (j a : Nat) : ByteArray := lastOf ((R.M j).V (a : Int)) ((R.M j).L.getD a zero128)
/-- A rack that nobody has asked yet. -/
def R00 (s : Nat) : Rk := ⟨fun _ => ⟨false, List.replicate s zero128, noV⟩, false, 0, 0⟩
section
variable {sec : Nat}
theorem top_00 (j c : Nat) : topS (R00 sec) j c = zero128 := by
  unfold topS R00
  show lastOf (noV (c : Int)) ((List.replicate sec zero128).getD c zero128) = _
  unfold noV lastOf
  rw [List.getLastD_nil, List.getD_eq_getElem?_getD]
  cases e : (List.replicate sec zero128)[c]? with
  | none => rfl
  | some x => have := List.mem_of_getElem? e; rw [List.eq_of_mem_replicate this]; rfl
end
section
variable {a : Nat}
theorem wrM_eq {Mm : Mst} {s : ByteArray} (h1 : Mm.fd = false) (h2 : a < Mm.L.length) (h3 : s.size = 128) : wrM Mm (a : Int) s = ⟨Mm.fd, Mm.L, updZ Mm.V (a : Int) (Mm.V (a : Int) ++ [s])⟩ := by
  unfold wrM
  rw [if_pos ⟨h1, by unfold hasN; simp; omega, h3⟩]
end
/-- A rack that has power, is not armed, and whose members are of one size. -/
structure Up (n sec : Nat) (R : Rk) : Prop where
  off : R.off = false
  ar : R.armed = 0
  n1 : 1 ≤ n
  n7 : n ≤ 7
  l : ∀ j, j < n → (R.M j).L.length = sec
theorem up_00 {n sec : Nat} (h1 : 1 ≤ n) (h7 : n ≤ 7) : Up n sec (R00 sec) := ⟨rfl, rfl, h1, h7, fun _ _ => by simp [R00]⟩
theorem Up.sz {n sec : Nat} {R : Rk} (h : Up n sec R) : szK R = sec := h.l 0 (by have := h.n1; omega)
/-- A step on one slot: what it makes of a member that is there, and how many acts it asks; of one that has failed it makes nothing. -/
structure Loc (n sec : Nat) (f : Rk → Int → Rk × Int) (G : Nat → Mst → Mst) (c : Nat) : Prop where
  yes : ∀ R j, Up n sec R → j < n → (R.M j).fd = false → f R (j : Int) = (⟨upd R.M j (G j (R.M j)), false, R.acts + (c : Int), 0⟩, 0)
  no : ∀ R j, Up n sec R → j < n → (R.M j).fd = true → ∃ ac, f R (j : Int) = (⟨R.M, false, ac, 0⟩, 80)
  sz : ∀ j M, M.L.length = sec → M.fd = false → (G j M).L.length = sec ∧ (G j M).fd = false
/-- Whose members have failed. -/
def deadL (R : Rk) (l : List Int) : List Int := l.filter fun x => (R.M x.toNat).fd
/-- What a step makes of the members of a list. -/
def toL (G : Nat → Mst → Mst) (l : List Int) (Mm : Nat → Mst) (j : Nat) : Mst := if (j : Int) ∈ l ∧ (Mm j).fd = false then G j (Mm j) else Mm j
section
variable {n sec : Nat} {f : Rk → Int → Rk × Int} {G : Nat → Mst → Mst} {c : Nat}
theorem Up.put {R : Rk} (h : Up n sec R) (hL : Loc n sec f G c) {j : Nat} (hj : j < n) (hal : (R.M j).fd = false) (ac : Int) : Up n sec ⟨upd R.M j (G j (R.M j)), false, ac, 0⟩ :=
  ⟨rfl, rfl, h.n1, h.n7, fun y hy => by
    show (upd R.M j (G j (R.M j)) y).L.length = sec
    unfold upd
    split
    · exact (hL.sz j _ (h.l j hj) hal).1
    · exact h.l y hy⟩
theorem upd_me {α : Type} (M : Nat → α) (j : Nat) : upd M j (M j) = M := funext fun k => by
  unfold upd
  split
  · rename_i e; rw [e]
  · rfl
theorem toL_nil (Mm : Nat → Mst) : toL G [] Mm = Mm := funext fun j => if_neg (by simp)
theorem toL_yes {y : Nat} {xs : List Int} {Mm : Nat → Mst} (hnd : (y : Int) ∉ xs) (hal : (Mm y).fd = false) (hG : (G y (Mm y)).fd = false) : toL G xs (upd Mm y (G y (Mm y))) = toL G ((y : Int) :: xs) Mm := funext fun j => by
  unfold toL
  by_cases e : j = y
  · subst e
    rw [if_neg (fun z => hnd z.1), if_pos ⟨List.mem_cons_self, hal⟩]
    unfold upd; rw [if_pos rfl]
  · have e2 : upd Mm y (G y (Mm y)) j = Mm j := if_neg e
    rw [e2]
    have : ((j : Int) ∈ (y : Int) :: xs) ↔ (j : Int) ∈ xs := by
      rw [List.mem_cons]
      exact ⟨fun z => z.resolve_left (by omega), .inr⟩
    simp only [this]
theorem toL_no {y : Nat} {xs : List Int} {Mm : Nat → Mst} (hal : (Mm y).fd = true) : toL G xs Mm = toL G ((y : Int) :: xs) Mm := funext fun j => by
  unfold toL
  by_cases e : j = y
  · subst e
    rw [if_neg (fun z => by rw [hal] at z; exact absurd z.2 (by decide)), if_neg (fun z => by rw [hal] at z; exact absurd z.2 (by decide))]
  · have : ((j : Int) ∈ (y : Int) :: xs) ↔ (j : Int) ∈ xs := by
      rw [List.mem_cons]
      exact ⟨fun z => z.resolve_left (by omega), .inr⟩
    simp only [this]
/-- What is done with each of a list. -/
theorem ea_loc (hL : Loc n sec f G c) : ∀ (l : List Int) (R : Rk) (acc : List Int), Up n sec R → (∀ x ∈ l, 0 ≤ x ∧ x < (n : Int)) → l.Nodup →
    ∃ ac, ea f R acc l = (⟨toL G l R.M, false, ac, 0⟩, acc ++ deadL R l, 0) ∧ Up n sec ⟨toL G l R.M, false, ac, 0⟩ ∧ ((∀ x ∈ l, (R.M x.toNat).fd = false) → ac = R.acts + (l.length : Int) * (c : Int))
  | [], R, acc, hU, _, _ => ⟨R.acts, by
      have e1 : R = ⟨R.M, false, R.acts, 0⟩ := by
        have h1 := hU.off
        have h2 := hU.ar
        cases R; simp_all
      unfold ea deadL
      rw [toL_nil, ← e1, List.filter_nil, List.append_nil], by rw [toL_nil]; exact ⟨rfl, rfl, hU.n1, hU.n7, hU.l⟩, fun _ => by simp⟩
  | x :: xs, R, acc, hU, hl, hnd => by
    obtain ⟨y, rfl⟩ := Int.eq_ofNat_of_zero_le (hl x List.mem_cons_self).1
    have hy : y < n := by have := (hl (y : Int) List.mem_cons_self).2; omega
    obtain ⟨hn1, hn2⟩ := List.nodup_cons.1 hnd
    have hl2 := fun x hx => hl x (List.mem_cons_of_mem _ hx)
    cases hd : (R.M y).fd with
    | false =>
      have e := hL.yes R y hU hy hd
      have hG := (hL.sz y _ (hU.l y hy) hd).2
      obtain ⟨ac, h1, h2, h3⟩ := ea_loc hL xs ⟨upd R.M y (G y (R.M y)), false, R.acts + (c : Int), 0⟩ acc (hU.put hL hy hd _) hl2 hn2
      have hfd : ∀ j, (upd R.M y (G y (R.M y)) j).fd = (R.M j).fd := fun j => by
        unfold upd
        split
        · rename_i z; rw [hG, z, hd]
        · rfl
      have hdd : deadL ⟨upd R.M y (G y (R.M y)), false, R.acts + (c : Int), 0⟩ xs = deadL R ((y : Int) :: xs) := by
        unfold deadL
        rw [List.filter_cons, Int.toNat_natCast, if_neg (by rw [hd]; decide)]
        exact List.filter_congr fun z _ => hfd _
      rw [hdd, toL_yes hn1 hd hG] at h1
      rw [toL_yes hn1 hd hG] at h2
      refine ⟨ac, ?_, h2, fun ha => ?_⟩
      · rw [ea, e]; exact h1
      · have := h3 fun z hz => by rw [hfd]; exact ha z (List.mem_cons_of_mem _ hz)
        rw [this, List.length_cons]
        show R.acts + (c : Int) + (xs.length : Int) * (c : Int) = R.acts + ((xs.length + 1 : Nat) : Int) * (c : Int)
        rw [show ((xs.length + 1 : Nat) : Int) = (xs.length : Int) + 1 by omega, Int.add_mul, Int.one_mul]
        omega
    | true =>
      obtain ⟨a1, e⟩ := hL.no R y hU hy hd
      obtain ⟨ac, h1, h2, h3⟩ := ea_loc hL xs ⟨R.M, false, a1, 0⟩ (acc ++ [(y : Int)]) ⟨rfl, rfl, hU.n1, hU.n7, hU.l⟩ hl2 hn2
      have hdd : [(y : Int)] ++ deadL ⟨R.M, false, a1, 0⟩ xs = deadL R ((y : Int) :: xs) := by
        unfold deadL
        rw [List.filter_cons, Int.toNat_natCast, if_pos hd]; rfl
      rw [toL_no hd, List.append_assoc, hdd] at h1
      rw [toL_no hd] at h2
      refine ⟨ac, ?_, h2, fun ha => ?_⟩
      · rw [ea, e]
        show (if (80 : Int) = 0 then _ else _) = _
        rw [if_neg (by decide), if_pos rfl]
        exact h1
      · have := ha (y : Int) List.mem_cons_self
        rw [Int.toNat_natCast, hd] at this
        cases this
/-- Writes of sealed texts to sectors one behind the other. -/
def wsG (i : Nat) (ps : List ByteArray) (a : Nat) (j : Nat) (M : Mst) : Mst :=
  match ps with
  | [] => M
  | p :: ps => wsG i ps (a + 1) j (wrM M (a : Int) (secS i j a p))
theorem wrM_L (M : Mst) (z : Int) (s : ByteArray) : (wrM M z s).L = M.L ∧ (wrM M z s).fd = M.fd := by
  unfold wrM; split <;> exact ⟨rfl, rfl⟩
theorem wsG_len (i : Nat) : ∀ (ps : List ByteArray) (a j : Nat) (M : Mst), (wsG i ps a j M).L = M.L ∧ (wsG i ps a j M).fd = M.fd
  | [], _, _, _ => ⟨rfl, rfl⟩
  | p :: ps, a, j, M => by
    obtain ⟨h1, h2⟩ := wsG_len i ps (a + 1) j (wrM M (a : Int) (secS i j a p))
    obtain ⟨h3, h4⟩ := wrM_L M (a : Int) (secS i j a p)
    exact ⟨h1.trans h3, h2.trans h4⟩
theorem upd_upd {α : Type} (M : Nat → α) (j : Nat) (x y : α) : upd (upd M j x) j y = upd M j y := funext fun k => by unfold upd; split <;> rfl
theorem upd_at {α : Type} (M : Nat → α) (j : Nat) (x : α) : upd M j x j = x := if_pos rfl
theorem ws_yes {i : Nat} (i1 : 1 ≤ i) (i2 : i ≤ 65535) : ∀ (ps : List ByteArray) (a : Nat) (R : Rk) (j : Nat), Up n sec R → j < n → (R.M j).fd = false → a + ps.length ≤ sec → sec ≤ 256 → (∀ p ∈ ps, p.size ≤ 120) → wsM n (i : Int) (j : Int) R a ps = (⟨upd R.M j (wsG i ps a j (R.M j)), false, R.acts + (ps.length : Int), 0⟩, 0)
  | [], a, R, j, hU, hj, _, _, _, _ => by
      have e1 : R = ⟨R.M, false, R.acts, 0⟩ := by
        have h1 := hU.off
        have h2 := hU.ar
        cases R; simp_all
      have e2 : upd R.M j (R.M j) = R.M := upd_me _ _
      unfold wsM wsG
      rw [e2, List.length_nil, Int.natCast_zero, Int.add_zero, ← e1]
  | p :: ps, a, R, j, hU, hj, hal, ha, hs, hz => by
      rw [List.length_cons] at ha
      have hm : Made i j a p := ⟨i1, i2, by have := hU.n7; omega, by omega, hz p List.mem_cons_self⟩
      obtain ⟨e1, e2⟩ := seal_ok hm
      obtain ⟨a1, a2⟩ := akE_well hU.off hU.ar (x := (j : Int)) (n := n) (by omega)
      have hw : wrRE n R (j : Int) (a : Int) (secS i j a p) = 0 := by
        unfold wrRE
        rw [if_pos a1, Int.toNat_natCast]
        unfold wrE
        rw [if_neg (by rw [hal]; decide), if_pos ⟨by unfold hasN; simp; rw [hU.l j hj]; omega, hm.sz⟩]
      have hr : wrR n R (j : Int) (a : Int) (secS i j a p) = ⟨upd R.M j (wrM (R.M j) (a : Int) (secS i j a p)), false, R.acts + 1, 0⟩ := by
        unfold wrR
        rw [if_pos a1, a2, Int.toNat_natCast]
      obtain ⟨l1, l2⟩ := wrM_L (R.M j) (a : Int) (secS i j a p)
      have hU2 : Up n sec ⟨upd R.M j (wrM (R.M j) (a : Int) (secS i j a p)), false, R.acts + 1, 0⟩ := ⟨rfl, rfl, hU.n1, hU.n7, fun y hy => by
        show (upd R.M j _ y).L.length = sec
        unfold upd
        split
        · rw [l1]; exact hU.l j hj
        · exact hU.l y hy⟩
      have ih := ws_yes i1 i2 ps (a + 1) ⟨upd R.M j (wrM (R.M j) (a : Int) (secS i j a p)), false, R.acts + 1, 0⟩ j hU2 hj (by show (upd R.M j _ j).fd = false; rw [upd_at, l2]; exact hal) (by omega) hs (fun q hq => hz q (List.mem_cons_of_mem _ hq))
      unfold wsM
      rw [if_pos e1, e2, if_pos hw, hr, ih]
      show ((⟨upd (upd R.M j _) j (wsG i ps (a + 1) j (upd R.M j _ j)), false, R.acts + 1 + (ps.length : Int), 0⟩ : Rk), (0 : Int)) = _
      rw [upd_upd, upd_at, List.length_cons]
      show _ = ((⟨upd R.M j (wsG i ps (a + 1) j (wrM (R.M j) (a : Int) (secS i j a p))), false, R.acts + ((ps.length + 1 : Nat) : Int), 0⟩ : Rk), (0 : Int))
      rw [show R.acts + 1 + (ps.length : Int) = R.acts + ((ps.length + 1 : Nat) : Int) by omega]
theorem ws_no {i : Nat} (i1 : 1 ≤ i) (i2 : i ≤ 65535) (p : ByteArray) (ps : List ByteArray) (a : Nat) (R : Rk) (j : Nat) (hU : Up n sec R) (hj : j < n) (hd : (R.M j).fd = true) (ha : a < sec) (hs : sec ≤ 256) (hz : p.size ≤ 120) : ∃ ac, wsM n (i : Int) (j : Int) R a (p :: ps) = (⟨R.M, false, ac, 0⟩, 80) := by
  have hm : Made i j a p := ⟨i1, i2, by have := hU.n7; omega, by omega, hz⟩
  obtain ⟨e1, e2⟩ := seal_ok hm
  obtain ⟨a1, a2⟩ := akE_well hU.off hU.ar (x := (j : Int)) (n := n) (by omega)
  have hw : wrRE n R (j : Int) (a : Int) (secS i j a p) = 80 := by
    unfold wrRE
    rw [if_pos a1, Int.toNat_natCast]
    unfold wrE
    rw [if_pos hd]
  have hr : wrR n R (j : Int) (a : Int) (secS i j a p) = ⟨R.M, false, R.acts + 1, 0⟩ := by
    unfold wrR
    rw [if_pos a1, a2, Int.toNat_natCast]
    have e : wrM (R.M j) (a : Int) (secS i j a p) = R.M j := by
      unfold wrM; rw [if_neg (fun z => by rw [hd] at z; exact absurd z.1 (by decide))]
    have e3 : upd R.M j (R.M j) = R.M := upd_me _ _
    rw [e, e3]
  unfold wsM
  rw [if_pos e1, e2, if_neg (by rw [hw]; decide), hr, hw]
  exact ⟨_, rfl⟩
/-- The steps of a Put are of this kind. -/
theorem loc_ws {i : Nat} (i1 : 1 ≤ i) (i2 : i ≤ 65535) {ps : List ByteArray} {a : Nat} (hne : ps ≠ []) (ha : a + ps.length ≤ sec) (hs : sec ≤ 256) (hz : ∀ p ∈ ps, p.size ≤ 120) : Loc n sec (fun R x => wsM n (i : Int) x R a ps) (wsG i ps a) ps.length where
  yes R j hU hj hal := ws_yes i1 i2 ps a R j hU hj hal ha hs hz
  no R j hU hj hd := by
    cases ps with
    | nil => exact absurd rfl hne
    | cons p ps => exact ws_no i1 i2 p ps a R j hU hj hd (by rw [List.length_cons] at ha; omega) hs (hz p List.mem_cons_self)
  sz j M h1 h2 := by rw [(wsG_len i ps a j M).1, (wsG_len i ps a j M).2]; exact ⟨h1, h2⟩
theorem loc_fl : Loc n sec (fl1 n) (fun _ M => flM M) 1 where
  yes R j hU hj hal := by
    obtain ⟨a1, a2⟩ := akE_well hU.off hU.ar (x := (j : Int)) (n := n) (by omega)
    unfold fl1 flR flRE
    rw [if_pos a1, if_pos a1, a2, Int.toNat_natCast]
    unfold flE
    rw [if_neg (by rw [hal]; decide)]
    rfl
  no R j hU hj hd := by
    obtain ⟨a1, a2⟩ := akE_well hU.off hU.ar (x := (j : Int)) (n := n) (by omega)
    refine ⟨R.acts + 1, ?_⟩
    unfold fl1 flR flRE
    rw [if_pos a1, if_pos a1, a2, Int.toNat_natCast]
    unfold flE
    rw [if_pos hd]
    have e : flM (R.M j) = R.M j := by unfold flM; rw [if_pos hd]
    have e3 : upd R.M j (R.M j) = R.M := upd_me _ _
    rw [e, e3]
  sz j M h1 h2 := by rw [flM_eq h2]; exact ⟨(flush_len _ _).trans h1, rfl⟩
end
end Go.Proofs.YtfadglcpapiklaaGreatDoor
