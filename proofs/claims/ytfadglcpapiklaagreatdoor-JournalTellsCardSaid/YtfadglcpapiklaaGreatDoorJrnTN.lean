/- journal: heads that were sealed once, restarts, rot; raw records in a row. -/
import Derived.Test.YtfadglcpapiklaaGreatDoorJrnTM
import Derived.Test.YtfadglcpapiklaaGreatDoorJrnFg
namespace Go.Proofs.YtfadglcpapiklaaGreatDoor
open Go.RowKit
open Rc
set_option linter.unusedVariables false
set_option linter.unusedSimpArgs false
set_option maxRecDepth 100000

/-- A raw record in a row. -/
structure RwA where
  r : Raw
  va : Value
  vb : Value
def rwE : Enc RwA where
  k := 6
  f := fun f => [.int .i64 f.r.k, .int .i64 f.r.m, .int .i64 f.r.b, .int .i64 f.r.q, cell1 f.va, cell1 f.vb]
  pos := by decide
  len := fun _ => rfl
  one := fun a u hu => by
    simp only [List.mem_cons, List.not_mem_nil, or_false] at hu
    rcases hu with rfl | rfl | rfl | rfl | rfl | rfl
    · rfl
    · rfl
    · rfl
    · rfl
    · exact cell1_one _
    · exact cell1_one _
/-- What a raw record's lists read as, and how great its numbers are. -/
def RwOk (w : World) (f : RwA) : Prop := RawOk f.r ∧ Reads w f.va (f.r.st.map (.int .i64)) ∧ Reads w f.vb (f.r.le.map (.int .i64))
section
variable {n sec k m j : Nat} {B q : Int} {M : Mst} {R : Rk} {ss : List St}
/-- A new member, of whose two heads some have been written. -/
def wZ (sec k j : Nat) : Nat → Mst
  | 0 => ⟨false, List.replicate sec zero128, noV⟩
  | b + 1 => wrM (wZ sec k j b) (bayN k b : Int) (secS 9 j (bayN k b) ⟨#[]⟩)
theorem wZ_len : ∀ b, (wZ sec k j b).L.length = sec ∧ (wZ sec k j b).fd = false
  | 0 => ⟨List.length_replicate, rfl⟩
  | b + 1 => by
    obtain ⟨h1, h2⟩ := wrM_L (wZ sec k j b) (bayN k b : Int) (secS 9 j (bayN k b) ⟨#[]⟩)
    obtain ⟨h3, h4⟩ := wZ_len b
    exact ⟨by show (wrM _ _ _).L.length = _; rw [h1]; exact h3, by show (wrM _ _ _).fd = _; rw [h2]; exact h4⟩
theorem empty_head : ¬ hdW (padB ⟨#[]⟩ 120) = markS := by decide
theorem wZ_good (hG : Gm n sec k m B) (hj : j < n) : Qt sec k m B j (flM (wZ sec k j 2)) := by
  have hrg := hG.rng
  have hin0 := (bay_in hG 0).1
  have hin1 := (bay_in hG 1).1
  have l0 := wZ_len (sec := sec) (k := k) (j := j) 0
  have l1 := wZ_len (sec := sec) (k := k) (j := j) 1
  have l2 := wZ_len (sec := sec) (k := k) (j := j) 2
  have op : ∀ c, c < 2 → openOk 9 (j : Int) (bayN k c : Int) (secS 9 j (bayN k c) ⟨#[]⟩) = true ∧ (secS 9 j (bayN k c) ⟨#[]⟩).size = 128 ∧ openS 9 (j : Int) (bayN k c : Int) (secS 9 j (bayN k c) ⟨#[]⟩) = padB ⟨#[]⟩ 120 := fun c hc => by
    have hin := (bay_in hG c).1
    obtain ⟨o1, o2, o3⟩ := open_sealed (i := 9) (l := j) (a := bayN k c) (q := ⟨#[]⟩) (by omega) (by omega) (by omega) (by omega) (by decide) 9 (j : Int) (bayN k c : Int)
    rw [decide_eq_true ⟨rfl, rfl, rfl⟩] at o1
    exact ⟨o1, o3, by unfold openS; rw [if_pos o1, o2]⟩
  have ha := bay_apart (k := k) 0 1 0 (by omega) (by omega) (by omega) (by omega)
  have tp : ∀ c, c < 2 → topM (wZ sec k j 2) (bayN k c) = secS 9 j (bayN k c) ⟨#[]⟩ := fun c hc => by
    show topM (wrM (wZ sec k j 1) (bayN k 1 : Int) _) _ = _
    rw [top_wr l1.2 (by rw [l1.1]; omega) (op 1 (by omega)).2.1]
    rcases (show c = 0 ∨ c = 1 by omega) with rfl | rfl
    · rw [if_neg (by omega)]
      show topM (wrM (wZ sec k j 0) (bayN k 0 : Int) _) _ = _
      rw [top_wr l0.2 (by rw [l0.1]; omega) (op 0 (by omega)).2.1, if_pos rfl]
    · rw [if_pos rfl]
  have hv : ∀ c, c < 2 → ∀ v, Ver (flM (wZ sec k j 2)) (bayN k c) v → v = secS 9 j (bayN k c) ⟨#[]⟩ := fun c hc v h => by
    have hin := (bay_in hG c).1
    rw [ver_fl l2.2 (by rw [l2.1]; omega) h]; exact tp c hc
  refine ⟨(fl_L l2.2).2.1, by rw [(fl_L l2.2).1]; exact l2.1, fun c hc v h => ?_, fun c hc v h hi => ?_⟩
  · rw [hv c hc v h]; exact (op c hc).1
  · exfalso
    rw [hv c hc v h] at hi
    have := hi.1
    rw [(op c hc).2.2, headB_mark empty_head] at this
    cases this
/-- The rack while heads are sealed: 'i' slots are done, 'b' heads of the next one. -/
structure Sld (n sec k i b : Nat) (R : Rk) : Prop where
  u : Up n sec R
  old : ∀ j, j < n → j < i → R.M j = flM (wZ sec k j 2)
  now : i < n → R.M i = wZ sec k i b
  new : ∀ j, j < n → i < j → R.M j = wZ sec k j 0
theorem sld_00 (h1 : 1 ≤ n) (h7 : n ≤ 7) : Sld n sec k 0 0 (R00 sec) := ⟨up_00 h1 h7, fun j _ h => absurd h (Nat.not_lt_zero _), fun _ => rfl, fun _ _ _ => rfl⟩
theorem Sld.wr {i b : Nat} (h : Sld n sec k i b R) (hi : i < n) : Sld n sec k i (b + 1) (wrR n R (i : Int) (bayN k b : Int) (secS 9 i (bayN k b) ⟨#[]⟩)) := by
  rw [wr_step h.u hi]
  obtain ⟨w1, w2⟩ := wrM_L (R.M i) (bayN k b : Int) (secS 9 i (bayN k b) ⟨#[]⟩)
  refine ⟨⟨rfl, rfl, h.u.n1, h.u.n7, fun j hj => ?_⟩, fun j hj hji => ?_, fun _ => ?_, fun j hj hji => ?_⟩
  · show (upd R.M i _ j).L.length = sec
    unfold upd
    split
    · rw [w1]; exact h.u.l i hi
    · exact h.u.l j hj
  · show upd R.M i _ j = _
    rw [upd_ne _ _ _ (by omega)]; exact h.old j hj hji
  · show upd R.M i _ i = _
    rw [upd_at, h.now hi]; rfl
  · show upd R.M i _ j = _
    rw [upd_ne _ _ _ (by omega)]; exact h.new j hj hji
theorem Sld.fl {i : Nat} (h : Sld n sec k i 2 R) (hi : i < n) : Sld n sec k (i + 1) 0 (flR n R (i : Int)) := by
  obtain ⟨a1, a2⟩ := akE_well h.u.off h.u.ar (x := (i : Int)) (n := n) (by omega)
  have e : flR n R (i : Int) = ⟨upd R.M i (flM (R.M i)), false, R.acts + 1, 0⟩ := by
    unfold flR
    rw [if_pos a1, a2, Int.toNat_natCast]
  have hfd : (R.M i).fd = false := by rw [h.now hi]; exact (wZ_len 2).2
  rw [e]
  refine ⟨⟨rfl, rfl, h.u.n1, h.u.n7, fun j hj => ?_⟩, fun j hj hji => ?_, fun hi2 => ?_, fun j hj hji => ?_⟩
  · show (upd R.M i _ j).L.length = sec
    unfold upd
    split
    · rw [(fl_L hfd).1]; exact h.u.l i hi
    · exact h.u.l j hj
  · show upd R.M i _ j = _
    by_cases e2 : j = i
    · subst e2; rw [upd_at, h.now hi]
    · rw [upd_ne _ _ _ e2]; exact h.old j hj (by omega)
  · show upd R.M i _ (i + 1) = _
    rw [upd_ne _ _ _ (by omega)]; exact h.new (i + 1) hi2 (by omega)
  · show upd R.M i _ j = _
    rw [upd_ne _ _ _ (by omega)]; exact h.new j hj (by omega)
theorem Sld.good (hG : Gm n sec k m B) (h : Sld n sec k n 0 R) : Good n sec k m B R := fun j hj => by rw [h.old j hj hj]; exact wZ_good hG hj
/-- What stands behind a restart. -/
structure Rst (n sec k m : Nat) (B : Int) (R : Rk) : Prop where
  u : Up n sec R
  g : Good n sec k m B R
theorem rst_re (h1 : 1 ≤ n) (h7 : n ≤ 7) (h : Good n sec k m B R) (l : List (Value × List Int)) : Rst n sec k m B (reR R l) ∧ (∀ j, (reR R l).M j = crashM (R.M j) (chs l j)) :=
  ⟨⟨⟨rfl, rfl, h1, h7, fun j hj => by show (crashM (R.M j) _).L.length = sec; rw [crashM_len]; exact (h j hj).ln⟩, fun j hj => (h j hj).crash _⟩, fun _ => rfl⟩
theorem Fin12.crash (h : Fin12 k q ss j M) (ch : List Int) : Fin12 k q ss j (crashM M ch) := ⟨fun u hu => h.h u (ver_cr hu), fun t ht u hu => h.b t ht u (ver_cr hu)⟩
theorem rok_re {c : Nat} (h : ROk n R c) (l : List (Value × List Int)) : ROk n (reR R l) c := ⟨h.1, ⟨Int.le_refl _, by show (0 : Int) ≤ _; omega⟩, fun i hi => Vn.none _ _ _⟩
theorem good_arm (h : Good n sec k m B R) (a : Int) : Good n sec k m B (arR R a) := fun j hj => by
  unfold arR
  split
  · exact h j hj
  · exact h j hj
theorem rok_ar {n : Nat} {R : Rk} {b : Nat} (h : ROk n R b) (a : Int) : ROk n (arR R a) b := by
  unfold arR
  split
  · rename_i he
    unfold arOk at he
    rw [Bool.and_eq_true, decide_eq_true_iff, decide_eq_true_iff] at he
    exact ⟨h.1, he, h.2.2⟩
  · exact h
/-- Rot in the last record. -/
theorem fin_rot (hG : Gm n sec k m B) (hr : rightB (k : Int) (m : Int) B q ss = true) (hF : Fin12 k q ss j M) (hV : M.V = noV) (hfd : M.fd = false) (hl : M.L.length = sec) (hj : j < n) {t b c : Nat} (ht : t ≤ (allT ss).length) (hb : b < 128) (hc0 : c ≠ 0) (hc : c < 256) :
    (roM M ((bayN k (q % 2).toNat + t : Nat) : Int) (b : Int) (c : Int)).fd = false ∧ (roM M ((bayN k (q % 2).toNat + t : Nat) : Int) (b : Int) (c : Int)).L.length = sec ∧ (t ≠ 0 → topM (roM M ((bayN k (q % 2).toNat + t : Nat) : Int) (b : Int) (c : Int)) (bayN k (q % 2).toNat) = secS 9 j (bayN k (q % 2).toNat) (layS q ss)) ∧ openOk ((9 : Nat) : Int) (j : Int) ((bayN k (q % 2).toNat + t : Nat) : Int) (topM (roM M ((bayN k (q % 2).toNat + t : Nat) : Int) (b : Int) (c : Int)) (bayN k (q % 2).toNat + t)) = false := by
  have hrg := hG.rng
  have hbl := body_len hG hr
  have hbi := (bay_in hG (q % 2).toNat).1
  have hPl := hG.plc hr (i := 9) (by omega) (by omega)
  have hH := hF.h _ (ver_top _ _)
  have hB := fun t ht => hF.b t ht _ (ver_top _ _)
  obtain ⟨A, hA⟩ : ∃ A, bayN k (q % 2).toNat = A := ⟨_, rfl⟩
  rw [hA] at hbi hPl hH hB ⊢
  have hin : A + t < M.L.length := by omega
  have hro : rotB M.fd M.L M.V ((A + t : Nat) : Int) (b : Int) (c : Int) = true := by
    unfold rotB hasN
    rw [hfd, hV]
    have h1 : decide (0 < (noV ((A + t : Nat) : Int)).length) = false := rfl
    rw [h1]
    have e1 : (decide (0 ≤ ((A + t : Nat) : Int)) && decide (((A + t : Nat) : Int) < (M.L.length : Int))) = true := by
      rw [decide_eq_true (by omega), decide_eq_true (by omega)]; rfl
    rw [e1, decide_eq_false (show ¬ ((b : Int) < 0) by omega), decide_eq_false (show ¬ (128 ≤ (b : Int)) by omega), decide_eq_false (show ¬ ((c : Int) < 1) by omega), decide_eq_false (show ¬ (255 < (c : Int)) by omega)]
    rfl
  have hM : roM M ((A + t : Nat) : Int) (b : Int) (c : Int) = ⟨false, M.L.set (A + t) (rotS (M.L.getD (A + t) zero128) b c), M.V⟩ := by
    unfold roM
    rw [if_pos hro, Int.toNat_natCast, Int.toNat_natCast, Int.toNat_natCast]
  rw [hM]
  have top : ∀ x, topM M x = M.L.getD x zero128 := fun x => by unfold topM; rw [hV]; rfl
  have top2 : ∀ x, topM ⟨false, M.L.set (A + t) (rotS (M.L.getD (A + t) zero128) b c), M.V⟩ x = if x = A + t then rotS (topM M (A + t)) b c else topM M x := fun x => by
    show lastOf (M.V (x : Int)) ((M.L.set (A + t) _).getD x zero128) = _
    rw [hV]
    show (M.L.set (A + t) _).getD x zero128 = _
    rw [List.getD_eq_getElem?_getD, List.getElem?_set]
    by_cases e : A + t = x
    · rw [if_pos e, if_pos e.symm, if_pos hin, top]; rfl
    · rw [if_neg e, if_neg (fun z => e z.symm), top, List.getD_eq_getElem?_getD]
  refine ⟨rfl, by simpa using hl, fun h0 => ?_, ?_⟩
  · rw [top2, if_neg (by omega)]; exact hH
  · rw [top2, if_pos rfl]
    by_cases h0 : t = 0
    · subst h0
      rw [Nat.add_zero, hH]
      exact rot_shut ⟨by omega, by omega, by omega, by omega, hPl.hz⟩ hb hc0 hc
    · obtain ⟨s, rfl⟩ : ∃ s, t = s + 1 := ⟨t - 1, by omega⟩
      have hs : s < (allT ss).length := by omega
      rw [show A + (s + 1) = A + 1 + s by omega, hB s hs]
      refine rot_shut ⟨by omega, by omega, by omega, by omega, Nat.le_of_eq (hPl.bz _ ?_)⟩ hb hc0 hc
      rw [List.getD_eq_getElem?_getD, List.getElem?_eq_getElem hs]
      exact List.getElem_mem hs
/-- Behind the rot, who tells. -/
theorem rot_tells (hG : Gm n sec k m B) (hr : rightB (k : Int) (m : Int) B q ss = true) (hR : Rst n sec k m B R) {s : Nat} (hs : s < n) (hV : (R.M s).V = noV) (hF : Fin12 k q ss s (R.M s)) {t b c : Nat} (ht : t ≤ (allT ss).length) (hb : b < 128) (hc0 : c ≠ 0) (hc : c < 256) (hj : j < n) :
    tlM n (upR n R (s : Int) fun M => roM M ((bayN k (q % 2).toNat + t : Nat) : Int) (b : Int) (c : Int)) 9 (k : Int) (m : Int) B (j : Int) = !decide (j = s) := by
  obtain ⟨f1, f2, f3, f4⟩ := fin_rot hG hr hF hV (hR.g s hs).al (hR.g s hs).ln hs ht hb hc0 hc
  have e : (upR n R (s : Int) fun M => roM M ((bayN k (q % 2).toNat + t : Nat) : Int) (b : Int) (c : Int)) = ⟨upd R.M s (roM (R.M s) ((bayN k (q % 2).toNat + t : Nat) : Int) (b : Int) (c : Int)), R.off, R.acts, R.armed⟩ := by
    unfold upR
    rw [if_pos (hasK_nat hs), Int.toNat_natCast]
  rw [e]
  have hU : Up n sec ⟨upd R.M s (roM (R.M s) ((bayN k (q % 2).toNat + t : Nat) : Int) (b : Int) (c : Int)), R.off, R.acts, R.armed⟩ := ⟨hR.u.off, hR.u.ar, hR.u.n1, hR.u.n7, fun y hy => by
    show (upd R.M s _ y).L.length = sec
    unfold upd
    split
    · exact f2
    · exact hR.u.l y hy⟩
  by_cases hjs : j = s
  · subst hjs
    rw [decide_eq_true rfl]
    have hMs : (⟨upd R.M j (roM (R.M j) ((bayN k (q % 2).toNat + t : Nat) : Int) (b : Int) (c : Int)), R.off, R.acts, R.armed⟩ : Rk).M j = roM (R.M j) ((bayN k (q % 2).toNat + t : Nat) : Int) (b : Int) (c : Int) := upd_at _ _ _
    exact look_rotten hG hU hr hj (by rw [hMs]; exact f1) ht (by rw [hMs]; exact f3) (by rw [hMs]; exact f4)
  · rw [decide_eq_false hjs]
    refine qt_tells hG hU hj ?_
    show Qt sec k m B j (upd R.M s _ j)
    rw [upd_ne _ _ _ hjs]; exact hR.g j hj
end
end Go.Proofs.YtfadglcpapiklaaGreatDoor
