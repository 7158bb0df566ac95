import Derived.Test.YtjgafpkpoppcbaaGreatDoorStrMath5
import Derived.Test.YtjgafpkpoppcbaaGreatDoorLrack
set_option linter.unusedVariables false
set_option linter.unusedSimpArgs false
namespace Go.Proofs.YtjgafpkpoppcbaaGreatDoor
open Go.RowKit
set_option maxRecDepth 100000
section
variable {n : Nat} {R : Rk} {id K M B N : Int} {l : List Int}
theorem rdRS_no {s a : Int} (h : rdRE n R s a ≠ 0) : rdRS n R s a = ⟨#[]⟩ := by
  unfold rdRE at h
  unfold rdRS
  by_cases e : rhE n R s = 0
  · rw [if_pos e] at h ⊢
    unfold rdE at h
    unfold rdS
    by_cases e1 : (R.M s.toNat).fd = true
    · rw [if_pos e1]
    · rw [if_neg e1] at h ⊢
      by_cases e2 : hasN (R.M s.toNat).L a = true
      · rw [if_pos e2] at h; exact absurd rfl h
      · rw [if_neg e2]
  · rw [if_neg e]
theorem open_empty (id s a : Int) : openOk id s a ⟨#[]⟩ = false := by
  unfold openOk
  rw [decide_eq_false (by decide), Bool.false_and]
theorem sr_eq (s a : Int) : srB n R id s a = openOk id s a (rdRS n R s a) ∧ srS n R id s a = openS id s a (rdRS n R s a) := by
  unfold srB srS
  by_cases e : rdRE n R s a = 0
  · rw [decide_eq_true e, Bool.true_and, if_pos e]; exact ⟨rfl, rfl⟩
  · rw [decide_eq_false e, Bool.false_and, if_neg e, rdRS_no e, open_empty]
    refine ⟨rfl, ?_⟩
    unfold openS
    rw [open_empty]; rfl
theorem srS_no {s a : Int} (h : srB n R id s a = false) : srS n R id s a = ⟨#[]⟩ := by
  rw [(sr_eq s a).2]
  unfold openS
  rw [← (sr_eq s a).1, h]; rfl
theorem srS_yes {s a : Int} (h : srB n R id s a = true) : (srS n R id s a).size = 120 := by
  rw [(sr_eq s a).2]
  unfold openS
  rw [← (sr_eq s a).1, h, if_pos rfl]
  rw [(sr_eq s a).1] at h
  unfold openOk at h
  rw [Bool.and_eq_true, decide_eq_true_iff] at h
  rw [ByteArray.size_extract, h.1]; rfl
theorem set_keep {α : Type} {d : α} {l : List α} {i : Nat} (h : l.getD i d = d) : l.set i d = l := by
  by_cases hi : i < l.length
  · refine List.ext_getElem (by simp) fun j h1 h2 => ?_
    by_cases e : i = j
    · subst e
      rw [List.getElem_set_self]
      rw [List.getD_eq_getElem?_getD, List.getElem?_eq_getElem hi, Option.getD_some] at h
      exact h.symm
    · rw [List.getElem_set_ne e]
  · rw [List.set_eq_of_length_le (by omega)]
theorem rdF_no {sh : List ByteArray} {hv : List Bool} {bad : List Int} {x : Int} {xs : List Int} {i : Nat} (hi : gIndex K M B N x = (i : Int)) (hb : srB n R id x (gSector K M B N) = false) (h1 : sh.getD i ⟨#[]⟩ = ⟨#[]⟩) (h2 : hv.getD i false = false) :
    rdF n R id K M B N sh hv bad (x :: xs) = rdF n R id K M B N sh hv (bad ++ [x]) xs := by
  show rdF n R id K M B N (sh.set (gIndex K M B N x).toNat (srS n R id x (gSector K M B N))) (hv.set (gIndex K M B N x).toNat (srB n R id x (gSector K M B N))) (if srB n R id x (gSector K M B N) = true then bad else bad ++ [x]) xs = _
  rw [hi, Int.toNat_natCast, srS_no hb, hb, set_keep h1, set_keep h2, if_neg (by decide)]
theorem rdF_yes {sh : List ByteArray} {hv : List Bool} {bad : List Int} {x : Int} {xs : List Int} {i : Nat} (hi : gIndex K M B N x = (i : Int)) (hb : srB n R id x (gSector K M B N) = true) :
    rdF n R id K M B N sh hv bad (x :: xs) = rdF n R id K M B N (sh.set i (srS n R id x (gSector K M B N))) (hv.set i true) bad xs := by
  show rdF n R id K M B N (sh.set (gIndex K M B N x).toNat (srS n R id x (gSector K M B N))) (hv.set (gIndex K M B N x).toNat (srB n R id x (gSector K M B N))) (if srB n R id x (gSector K M B N) = true then bad else bad ++ [x]) xs = _
  rw [hi, Int.toNat_natCast, hb, if_pos rfl]
theorem dec_eq {k m : Nat} {all : List ByteArray} {hv : List Bool} (la : all.length = k + m) (lh : hv.length = k + m) (hs : ∀ i, i < k + m → hv.getD i false = true → (all.getD i ⟨#[]⟩).size = 120) (k1 : 1 ≤ k) (k2 : k ≤ 8) (m1 : 1 ≤ m) (m2 : m ≤ 8) :
    decE (m : Int) all hv = if k ≤ hv.count true then 0 else 31 := by
  have hB : decB (m : Int) all hv = true := by
    unfold decB; rw [la, lh]; simp [fits8]; omega
  have hK : decK (m : Int) all = k := by unfold decK; rw [la]; omega
  have hr : Rect (chL (idxL hv) all) (idxL hv).length 120 := ⟨by unfold chL; rw [List.length_map], fun i hi => by
    have hx := List.getElem_mem hi
    have hlt := idxL_lt hv _ hx
    rw [lh] at hlt
    have := hs _ hlt (idxL_true hv _ hx)
    unfold chL
    rw [List.getD_eq_getElem?_getD, List.getElem?_map, List.getElem?_eq_getElem hi]
    exact this⟩
  have hO : decO (m : Int) all hv = true := by rw [decO, hB, alike_of_rect hr (by decide) (by decide)]; rfl
  unfold decE
  rw [hO, if_pos rfl, hK, ← idxL_count]
def SLen (n : Nat) (R : Rk) : Prop := ∀ j, j < n → (R.M j).L.length = szK R
theorem KA.slen {w w1 : World} {S : Nat → Prop} {k : Nat} (h : KA w S w1 k n R) : SLen n R ∧ 1 ≤ n ∧ n ≤ 7 := by
  obtain ⟨q, cap, T, mm, sec, ar, hB, _, hl⟩ := h.h
  have h1 := hB.n1
  exact ⟨fun j hj => by have e1 := hl j hj; have e0 := hl 0 (by omega); unfold szK; omega, h1, hB.n7⟩
theorem akE_in {x : Int} (hx : 0 ≤ x ∧ x < (n : Int)) : akE n R x = 0 ∨ akE n R x = 90 := by
  have hk : hasK n x = true := by
    obtain ⟨i, rfl⟩ := Int.eq_ofNat_of_zero_le hx.1
    exact hasK_nat (by omega)
  unfold akE
  rw [if_pos hk]
  split
  · exact .inr rfl
  · split
    · exact .inr rfl
    · exact .inl rfl
theorem fl_err {x : Int} (hx : 0 ≤ x ∧ x < (n : Int)) : flRE n R x = 0 ∨ flRE n R x = 80 ∨ flRE n R x = 90 := by
  unfold flRE
  rcases akE_in (R := R) hx with e | e
  · rw [if_pos e]
    unfold flE
    split
    · exact .inr (.inl rfl)
    · exact .inl rfl
  · rw [if_neg (by rw [e]; decide), e]; exact .inr (.inr rfl)
theorem szK_wr {s a : Int} {t : ByteArray} : szK (wrR n R s a t) = szK R := by
  have hL : ∀ Mm : Mst, (wrM Mm a t).L = Mm.L := fun Mm => by unfold wrM; split <;> rfl
  have hA : szK (akR n R s) = szK R := by unfold akR; split <;> rfl
  unfold wrR
  split
  · show (upd R.M s.toNat (wrM (R.M s.toNat) a t) 0).L.length = (R.M 0).L.length
    by_cases e : 0 = s.toNat
    · rw [← e, upd_same, hL]
    · rw [upd_other _ _ _ _ e]
  · exact hA
theorem wr1_step {R0 : Rk} {sh : List ByteArray} {x : Int} (hal : allowB n R0 id K M B l N = true) (h0 : szK R = szK R0) (hl : SLen n R) (h7 : n ≤ 7) (hx : x ∈ l) (hs : (sh.getD (gIndex K M B N x).toNat ⟨#[]⟩).size ≤ 120) :
    wr1 n id K M B N sh R x = (wrR n R x (gSector K M B N) (sealL id x (gSector K M B N) (sh.getD (gIndex K M B N x).toNat ⟨#[]⟩)), wrRE n R x (gSector K M B N) (sealL id x (gSector K M B N) (sh.getD (gIndex K M B N x).toNat ⟨#[]⟩))) ∧
    (wrRE n R x (gSector K M B N) (sealL id x (gSector K M B N) (sh.getD (gIndex K M B N x).toNat ⟨#[]⟩)) = 0 ∨ wrRE n R x (gSector K M B N) (sealL id x (gSector K M B N) (sh.getD (gIndex K M B N x).toNat ⟨#[]⟩)) = 80 ∨ wrRE n R x (gSector K M B N) (sealL id x (gSector K M B N) (sh.getD (gIndex K M B N x).toNat ⟨#[]⟩)) = 90) := by
  obtain ⟨hg, hn, hsz, hid, ⟨hin, hnd⟩, hN0, hN1⟩ := allow_facts hal
  obtain ⟨a, ha, _, haz⟩ := sector_nat hal
  have ha255 : a ≤ 255 := by
    have := sector_eq hg hN0 hN1
    rw [ha] at this
    rw [stripes_eq hg] at hN1
    obtain ⟨k1, _, b1, b2⟩ := k_cases hg
    rcases k1 with e | e | e | e <;> rw [e] at this hN1 <;> omega
  obtain ⟨y, rfl⟩ := Int.eq_ofNat_of_zero_le (hin x hx).1
  obtain ⟨i, rfl⟩ := Int.eq_ofNat_of_zero_le (show 0 ≤ id by omega)
  have hy : y < n := by have := (hin _ hx).2; omega
  obtain ⟨p, hp⟩ : ∃ p, sh.getD (gIndex K M B N (y : Int)).toNat ⟨#[]⟩ = p := ⟨_, rfl⟩
  rw [hp] at hs ⊢
  have hm : Made i y a p := ⟨by omega, by omega, by omega, ha255, hs⟩
  obtain ⟨e1, e2⟩ := seal_ok hm
  rw [ha]
  refine ⟨?_, ?_⟩
  · unfold wr1
    rw [ha, hp, Int.toNat_natCast]
    show wsM n (i : Int) (y : Int) R a [p] = _
    unfold wsM
    rw [if_pos e1]
    by_cases h0 : wrRE n R (y : Int) (a : Int) (sealL (i : Int) (y : Int) (a : Int) p) = 0
    · rw [if_pos h0, h0]; rfl
    · rw [if_neg h0]
  · rw [e2]
    unfold wrRE
    rcases akE_in (R := R) (hin _ hx) with e | e
    · rw [if_pos e, Int.toNat_natCast]
      unfold wrE
      split
      · exact .inr (.inl rfl)
      · rw [if_pos ⟨by unfold hasN; rw [hl y hy, h0]; simp; omega, hm.sz⟩]; exact .inl rfl
    · rw [if_neg (by rw [e]; decide), e]; exact .inr (.inr rfl)
end
end Go.Proofs.YtjgafpkpoppcbaaGreatDoor
