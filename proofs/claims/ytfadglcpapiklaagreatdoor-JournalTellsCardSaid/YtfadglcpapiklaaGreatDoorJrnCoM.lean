/- journal: JournalCopies, its maths. -/
import Derived.Test.YtfadglcpapiklaaGreatDoorJrnCo
import Derived.Test.YtfadglcpapiklaaGreatDoorJrnLsM
import Derived.Test.YtfadglcpapiklaaGreatDoorJrnPu
namespace Go.Proofs.YtfadglcpapiklaaGreatDoor
open Go.RowKit
open Rc
set_option linter.unusedVariables false
set_option linter.unusedSimpArgs false
set_option maxRecDepth 100000

/-- A member of which nothing can be told. -/
def Bad (k : Nat) (q : Int) (ss : List St) (j : Nat) (M : Mst) : Prop :=
  M.fd = true ∨ (M.fd = false ∧ ∀ c, topM M c = zero128) ∨
    (M.fd = false ∧ (∀ c, c < 2 → c ≠ (q % 2).toNat → topM M (bayN k c) = zero128) ∧ ∃ t, t ≤ (allT ss).length ∧ (t ≠ 0 → topM M (bayN k (q % 2).toNat) = secS 9 j (bayN k (q % 2).toNat) (layS q ss)) ∧ openOk ((9 : Nat) : Int) (j : Int) ((bayN k (q % 2).toNat + t : Nat) : Int) (topM M (bayN k (q % 2).toNat + t)) = false)
section
variable {n sec k m j keep : Nat} {R R1 : Rk} {B q : Int} {ss : List St} {gone : List Bool}
theorem bad_fail {M : Mst} : Bad k q ss j (faM M) := .inl rfl
theorem rep_zero (n c : Nat) : (List.replicate n zero128).getD c zero128 = zero128 := by
  rw [List.getD_eq_getElem?_getD, List.getElem?_replicate]; split <;> rfl
theorem bad_blank {M : Mst} : Bad k q ss j (blM M) := .inr (.inl ⟨rfl, fun c => by
  show lastOf [] ((List.replicate M.L.length zero128).getD c zero128) = _
  rw [rep_zero]; rfl⟩)
theorem bad_none (hG : Gm n sec k m B) (hr : rightB (k : Int) (m : Int) B q ss = true) (hU : Up n sec R) (hj : j < n) (hb : Bad k q ss j (R.M j)) {c : Nat} (hc : c < 2) : bayM n R 9 (k : Int) (m : Int) B (j : Int) c = none := by
  rcases hb with h | ⟨h1, h2⟩ | ⟨h1, h2, t, ht, hh, ho⟩
  · exact cand_none hG hc (dead_shut hU.off hj h _ _)
  · exact bay_zero hG hU hj hc (fun _ => h2 _) _
  · by_cases hcq : c = (q % 2).toNat
    · rw [hcq]; exact bay_rotten (i := 9) hG hU hr (by omega) (by omega) hj h1 ht hh ho
    · exact bay_zero hG hU hj hc (fun _ => h2 c hc hcq) _
/-- What stands while slots are spoilt, one by one. -/
structure Spo (n sec k : Nat) (q : Int) (ss : List St) (keep : Nat) (R1 R : Rk) (gone : List Bool) : Prop where
  u : Up n sec R
  len : gone.length = n
  same : ∀ j, j < n → gone.getD j false = false → R.M j = R1.M j
  bad : ∀ j, j < n → gone.getD j false = true → Bad k q ss j (R.M j)
  keep : gone.getD keep false = false
theorem gone_none (n j : Nat) : (List.replicate n false).getD j false = false := by
  rw [List.getD_eq_getElem?_getD, List.getElem?_replicate]; split <;> rfl
theorem Spo.start (hU : Up n sec R1) : Spo n sec k q ss keep R1 R1 (List.replicate n false) :=
  ⟨hU, List.length_replicate, fun _ _ _ => rfl, (fun j _ h => by rw [gone_none] at h; cases h), gone_none _ _⟩
theorem Spo.step (h : Spo n sec k q ss keep R1 R gone) (hj : j < n) (hk : j ≠ keep) (hg : gone.getD j false = false) (f : Mst → Mst) (hL : (f (R1.M j)).L.length = (R1.M j).L.length) (hb : Bad k q ss j (f (R1.M j))) : Spo n sec k q ss keep R1 (upR n R (j : Int) f) (gone.set j true) := by
  have e : upR n R (j : Int) f = ⟨upd R.M j (f (R1.M j)), R.off, R.acts, R.armed⟩ := by
    unfold upR
    rw [if_pos (hasK_nat hj), Int.toNat_natCast, h.same j hj hg]
  have hjl : j < gone.length := by rw [h.len]; exact hj
  rw [e]
  refine ⟨⟨h.u.off, h.u.ar, h.u.n1, h.u.n7, fun c hc => ?_⟩, by rw [List.length_set]; exact h.len, fun c hc hgc => ?_, fun c hc hgc => ?_, ?_⟩
  · show (upd R.M j _ c).L.length = sec
    unfold upd
    split
    · rw [hL, ← h.same j hj hg]; exact h.u.l j hj
    · exact h.u.l c hc
  · rw [getD_set hjl] at hgc
    split at hgc
    · cases hgc
    · next hne =>
      show upd R.M j _ c = _
      unfold upd
      rw [if_neg hne]; exact h.same c hc hgc
  · show Bad k q ss c (upd R.M j _ c)
    unfold upd
    rw [getD_set hjl] at hgc
    split
    · next he => subst he; exact hb
    · next hne => rw [if_neg hne] at hgc; exact h.bad c hc hgc
  · rw [getD_set hjl, if_neg (fun z => hk z.symm)]; exact h.keep
theorem bad_rot (hG : Gm n sec k m B) (hr : rightB (k : Int) (m : Int) B q ss = true) (hP : PutTo n sec k 9 q ss (allL n) (R00 sec) R1) (hj : j < n) {t b c : Nat} (ht : t ≤ (allT ss).length) (hb : b < 128) (hc0 : c ≠ 0) (hc : c < 256) :
    Bad k q ss j (roM (R1.M j) ((bayN k (q % 2).toNat + t : Nat) : Int) (b : Int) (c : Int)) ∧ (roM (R1.M j) ((bayN k (q % 2).toNat + t : Nat) : Int) (b : Int) (c : Int)).L.length = (R1.M j).L.length := by
  have hrg := hG.rng
  have hbl := body_len hG hr
  have hbi := (bay_in hG (q % 2).toNat).1
  have hPl := hG.plc hr (i := 9) (by omega) (by omega)
  obtain ⟨b1, v1, t1⟩ := hP.bay j hj (allL_mem.2 (by omega)) rfl
  have hl := hP.u.l j hj
  obtain ⟨A, hA⟩ : ∃ A, bayN k (q % 2).toNat = A := ⟨_, rfl⟩
  rw [hA] at hbi b1 t1 hPl
  have hin : A + t < (R1.M j).L.length := by omega
  have hro : rotB (R1.M j).fd (R1.M j).L (R1.M j).V ((A + t : Nat) : Int) (b : Int) (c : Int) = true := by
    unfold rotB hasN
    rw [b1.al, v1]
    have h1 : decide (0 < (noV ((A + t : Nat) : Int)).length) = false := rfl
    rw [h1]
    have e1 : (decide (0 ≤ ((A + t : Nat) : Int)) && decide (((A + t : Nat) : Int) < ((R1.M j).L.length : Int))) = true := by
      rw [decide_eq_true (by omega), decide_eq_true (by omega)]; rfl
    rw [e1, decide_eq_false (show ¬ ((b : Int) < 0) by omega), decide_eq_false (show ¬ (128 ≤ (b : Int)) by omega), decide_eq_false (show ¬ ((c : Int) < 1) by omega), decide_eq_false (show ¬ (255 < (c : Int)) by omega)]
    rfl
  have hM : roM (R1.M j) ((A + t : Nat) : Int) (b : Int) (c : Int) = ⟨false, (R1.M j).L.set (A + t) (rotS ((R1.M j).L.getD (A + t) zero128) b c), (R1.M j).V⟩ := by
    unfold roM
    rw [if_pos hro, Int.toNat_natCast, Int.toNat_natCast, Int.toNat_natCast]
  rw [hA, hM]
  have top : ∀ x, topM (R1.M j) x = (R1.M j).L.getD x zero128 := fun x => by unfold topM; rw [v1]; rfl
  have top2 : ∀ x, topM ⟨false, (R1.M j).L.set (A + t) (rotS ((R1.M j).L.getD (A + t) zero128) b c), (R1.M j).V⟩ x = if x = A + t then rotS (topM (R1.M j) (A + t)) b c else topM (R1.M j) x := fun x => by
    show lastOf ((R1.M j).V (x : Int)) (((R1.M j).L.set (A + t) _).getD x zero128) = _
    rw [v1]
    show ((R1.M j).L.set (A + t) _).getD x zero128 = _
    rw [List.getD_eq_getElem?_getD, List.getElem?_set]
    by_cases e : A + t = x
    · rw [if_pos e, if_pos e.symm, if_pos hin, top]; rfl
    · rw [if_neg e, if_neg (fun z => e z.symm), top, List.getD_eq_getElem?_getD]
  refine ⟨.inr (.inr ⟨rfl, fun c hc hne => ?_, t, ht, fun h0 => ?_, ?_⟩), by simp⟩
  · have ha := bay_apart (k := k) c (q % 2).toNat 0 hc (by omega) hne (by omega)
    have hci := (bay_in hG c).1
    rw [hA] at ha
    rw [top2, if_neg (by omega), t1 _ (by omega) (by omega)]
    exact top_zero (sec := sec) j _
  · rw [hA, top2, if_neg (by omega)]
    exact b1.h
  · rw [hA, top2, if_pos rfl]
    by_cases h0 : t = 0
    · subst h0
      rw [Nat.add_zero, b1.h]
      exact rot_shut ⟨by omega, by omega, by omega, by omega, hPl.hz⟩ hb hc0 hc
    · obtain ⟨s, rfl⟩ : ∃ s, t = s + 1 := ⟨t - 1, by omega⟩
      have hs : s < (allT ss).length := by omega
      have e := b1.b s hs
      rw [show A + (s + 1) = A + 1 + s by omega, e]
      refine rot_shut ⟨by omega, by omega, by omega, by omega, Nat.le_of_eq (hPl.bz _ ?_)⟩ hb hc0 hc
      rw [List.getD_eq_getElem?_getD, List.getElem?_eq_getElem hs]
      exact List.getElem_mem hs
theorem spo_best (hG : Gm n sec k m B) (hr : rightB (k : Int) (m : Int) B q ss = true) (hP : PutTo n sec k 9 q ss (allL n) (R00 sec) R1) (h : Spo n sec k q ss keep R1 R gone) (hk : keep < n) : bestM n R 9 (k : Int) (m : Int) B (allL n) = some (q, ss.map pr) := by
  have yes : ∀ j, j < n → gone.getD j false = false → ∀ c, c < 2 → bayM n R 9 (k : Int) (m : Int) B (j : Int) c = if c = (q % 2).toNat then some (q, ss.map pr) else none := fun j hj hg c hc => by
    obtain ⟨b1, v1, t1⟩ := hP.bay j hj (allL_mem.2 (by omega)) rfl
    rw [← h.same j hj hg] at b1 t1
    split
    · next e => exact cand_at hG h.u hr (i := 9) (by omega) (by omega) hj b1 e
    · next e =>
      have hci := (bay_in hG c).1
      have hb := body_len hG hr
      have ha := bay_apart (k := k) c (q % 2).toNat 0 hc (by omega) e (by omega)
      refine bay_zero hG h.u hj hc (fun _ => ?_) _
      rw [t1 _ (by omega) (by omega)]
      exact top_zero (sec := sec) j _
  refine best_only (fun x hx c hc => ?_) ⟨(keep : Int), allL_mem.2 (by omega), (q % 2).toNat, by omega, ?_⟩
  · obtain ⟨h0, h3⟩ := allL_mem.1 hx
    obtain ⟨j, rfl⟩ := Int.eq_ofNat_of_zero_le h0
    have hj : j < n := by omega
    rcases Bool.eq_false_or_eq_true (gone.getD j false) with e | e
    · exact .inl (bad_none hG hr h.u hj (h.bad j hj e) hc)
    · rw [yes j hj e c hc]
      split
      · exact .inr rfl
      · exact .inl rfl
  · rw [yes keep hk h.keep _ (by omega), if_pos rfl]
end
end Go.Proofs.YtfadglcpapiklaaGreatDoor
