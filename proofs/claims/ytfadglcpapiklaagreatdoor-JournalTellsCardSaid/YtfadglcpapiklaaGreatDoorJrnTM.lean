/- journal: what each version of a sector must be, so that a slot tells whatever a crash keeps. -/
import Derived.Test.YtfadglcpapiklaaGreatDoorJrnPu
import Derived.Test.YtfadglcpapiklaaGreatDoorJrnCoM
namespace Go.Proofs.YtfadglcpapiklaaGreatDoor
open Go.RowKit
open Rc
set_option linter.unusedVariables false
set_option linter.unusedSimpArgs false
set_option maxRecDepth 100000

/-- What a crash leaves of a sector. -/
theorem crL_in (L : List ByteArray) (V : Int → List ByteArray) (ch : List Int) (k : Nat) (hk : k < L.length) : ∀ n, n ≤ (pend L.length V).length → (crL L V ch (pend L.length V) n).getD k zero128 = L.getD k zero128 ∨ (crL L V ch (pend L.length V) n).getD k zero128 ∈ V k
  | 0, _ => .inl rfl
  | n + 1, hn => by
    have ih := crL_in L V ch k hk n (by omega)
    show (if chJ V ch (pend L.length V) n = 0 then _ else _ : List ByteArray).getD k zero128 = _ ∨ (if chJ V ch (pend L.length V) n = 0 then _ else _ : List ByteArray).getD k zero128 ∈ _
    by_cases h0 : chJ V ch (pend L.length V) n = 0
    · rw [if_pos h0]; exact ih
    · rw [if_neg h0]
      obtain ⟨i, hi, hx, hv⟩ := mem_pend.1 (show (pend L.length V).getD n 0 ∈ pend L.length V by rw [List.getD_eq_getElem?_getD, List.getElem?_eq_getElem (show n < (pend L.length V).length by omega)]; exact List.getElem_mem _)
      have hj : chJ V ch (pend L.length V) n < (V (i : Int)).length + 1 := by unfold chJ; rw [hv]; exact Nat.mod_lt _ (by omega)
      rw [hv, Int.toNat_natCast]
      by_cases e : i = k
      · subst e
        right
        rw [List.getD_eq_getElem?_getD, List.getElem?_set, if_pos rfl, if_pos (by rw [crL_len]; exact hk), Option.getD_some, List.getD_eq_getElem?_getD, List.getElem?_eq_getElem (by omega)]
        exact List.getElem_mem _
      · rw [List.getD_eq_getElem?_getD, List.getElem?_set, if_neg e, ← List.getD_eq_getElem?_getD]
        exact ih
theorem crash_in (L : List ByteArray) (V : Int → List ByteArray) (ch : List Int) (k : Nat) (hk : k < L.length) : (crash L V ch).getD k zero128 = L.getD k zero128 ∨ (crash L V ch).getD k zero128 ∈ V k := crL_in L V ch k hk _ (Nat.le_refl _)
/-- What a sector may be read as behind a crash. -/
def Ver (M : Mst) (c : Nat) (v : ByteArray) : Prop := v = M.L.getD c zero128 ∨ v ∈ M.V (c : Int)
theorem lastOf_in (l : List ByteArray) (d : ByteArray) : lastOf l d = d ∨ lastOf l d ∈ l := by
  unfold lastOf
  rcases List.eq_nil_or_concat l with rfl | ⟨m, x, rfl⟩
  · exact .inl rfl
  · right; simp
theorem ver_top (M : Mst) (c : Nat) : Ver M c (topM M c) := by
  unfold topM
  rcases lastOf_in (M.V (c : Int)) (M.L.getD c zero128) with h | h
  · exact .inl h
  · exact .inr h
theorem ver_wr {M : Mst} {a c : Nat} {s v : ByteArray} (h1 : M.fd = false) (h2 : a < M.L.length) (h3 : s.size = 128) (h : Ver (wrM M (a : Int) s) c v) : Ver M c v ∨ (c = a ∧ v = s) := by
  rw [wrM_eq h1 h2 h3] at h
  rcases h with h | h
  · exact .inl (.inl h)
  · have h : v ∈ updZ M.V (a : Int) (M.V (a : Int) ++ [s]) (c : Int) := h
    by_cases e : c = a
    · subst e
      rw [updZ_same] at h
      rcases List.mem_append.1 h with y | y
      · exact .inl (.inr y)
      · exact .inr ⟨rfl, List.mem_singleton.1 y⟩
    · rw [updZ_other _ _ _ _ (by omega)] at h
      exact .inl (.inr h)
theorem ver_wr' {M : Mst} {a c : Nat} {s v : ByteArray} (h1 : M.fd = false) (h2 : a < M.L.length) (h3 : s.size = 128) (h : Ver M c v) : Ver (wrM M (a : Int) s) c v := by
  rw [wrM_eq h1 h2 h3]
  rcases h with h | h
  · exact .inl h
  · right
    show v ∈ updZ M.V (a : Int) (M.V (a : Int) ++ [s]) (c : Int)
    by_cases e : c = a
    · subst e; rw [updZ_same]; exact List.mem_append.2 (.inl h)
    · rw [updZ_other _ _ _ _ (by omega)]; exact h
theorem ver_fl {M : Mst} {c : Nat} {v : ByteArray} (h1 : M.fd = false) (hc : c < M.L.length) (h : Ver (flM M) c v) : v = topM M c := by
  rw [flM_eq h1] at h
  rcases h with h | h
  · rw [h]; exact flush_get _ _ hc
  · cases h
theorem ver_out {M : Mst} {c : Nat} (hc : ¬ c < M.L.length) : M.L.getD c zero128 = zero128 := by
  rw [List.getD_eq_getElem?_getD, List.getElem?_eq_none (by omega)]; rfl
theorem ver_flS {M : Mst} {c : Nat} {v : ByteArray} (h1 : M.fd = false) (h : Ver (flM M) c v) : Ver M c v := by
  by_cases hc : c < M.L.length
  · rw [ver_fl h1 hc h]; exact ver_top M c
  · rw [flM_eq h1] at h
    rcases h with h | h
    · left
      rw [h, ver_out hc]
      exact ver_out (M := ⟨false, flush M.L M.V, noV⟩) (by show ¬ c < (flush M.L M.V).length; rw [flush_len]; exact hc)
    · cases h
theorem ver_cr {M : Mst} {ch : List Int} {c : Nat} {v : ByteArray} (h : Ver (crashM M ch) c v) : Ver M c v := by
  rcases h with h | h
  · have h : v = (crash M.L M.V ch).getD c zero128 := h
    by_cases hc : c < M.L.length
    · rcases crash_in M.L M.V ch c hc with e | e
      · exact .inl (h.trans e)
      · rw [h]; exact .inr e
    · left
      rw [h, ver_out hc]
      exact ver_out (M := crashM M ch) (by rw [crashM_len]; exact hc)
  · cases h
/-- A head that names a record of this bay. -/
def isRc (k m : Nat) (B : Int) (c : Nat) (t : ByteArray) : Prop := headB (k : Int) (m : Int) B t = true ∧ gHead (k : Int) (m : Int) B (hdQ t) = (bayN k c : Int)
/-- Whatever a crash keeps, the slot tells. -/
structure Qt (sec k m : Nat) (B : Int) (j : Nat) (M : Mst) : Prop where
  al : M.fd = false
  ln : M.L.length = sec
  hd : ∀ c, c < 2 → ∀ v, Ver M (bayN k c) v → openOk 9 (j : Int) (bayN k c : Int) v = true
  bd : ∀ c, c < 2 → ∀ v, Ver M (bayN k c) v → isRc k m B c (openS 9 (j : Int) (bayN k c : Int) v) → ∀ t, t < lkC (k : Int) (openS 9 (j : Int) (bayN k c : Int) v) → ∀ u, Ver M (bayN k c + 1 + t) u → openOk 9 (j : Int) ((bayN k c + 1 + t : Nat) : Int) u = true
section
variable {n sec k m j : Nat} {B q : Int} {M M' : Mst} {R R' : Rk} {ss : List St}
theorem Qt.sub (h : Qt sec k m B j M) (h1 : M'.fd = false) (h2 : M'.L.length = sec) (hv : ∀ c v, Ver M' c v → Ver M c v) : Qt sec k m B j M' :=
  ⟨h1, h2, fun c hc v hV => h.hd c hc v (hv _ _ hV), fun c hc v hV hi t ht u hU => h.bd c hc v (hv _ _ hV) hi t ht u (hv _ _ hU)⟩
theorem Qt.flush (h : Qt sec k m B j M) : Qt sec k m B j (flM M) := h.sub (fl_L h.al).2.1 (by rw [(fl_L h.al).1]; exact h.ln) fun c v => ver_flS h.al
theorem Qt.crash (h : Qt sec k m B j M) (ch : List Int) : Qt sec k m B j (crashM M ch) := h.sub h.al (by rw [crashM_len]; exact h.ln) fun c v => ver_cr
theorem Qt.body (h : Qt sec k m B j M) {a : Nat} {s : ByteArray} (ha : a < sec) (hs : s.size = 128) (hn : ∀ c, c < 2 → a ≠ bayN k c) (ho : openOk 9 (j : Int) (a : Int) s = true) : Qt sec k m B j (wrM M (a : Int) s) := by
  obtain ⟨l1, l2⟩ := wrM_L M (a : Int) s
  have hV : ∀ {c v}, Ver (wrM M (a : Int) s) c v → Ver M c v ∨ (c = a ∧ v = s) := fun hh => ver_wr h.al (by rw [h.ln]; exact ha) hs hh
  refine ⟨by rw [l2]; exact h.al, by rw [l1]; exact h.ln, fun c hc v hv => ?_, fun c hc v hv hi t ht u hu => ?_⟩
  · rcases hV hv with y | ⟨y, _⟩
    · exact h.hd c hc v y
    · exact absurd y.symm (hn c hc)
  · rcases hV hv with y | ⟨y, _⟩
    · rcases hV hu with z | ⟨z1, z2⟩
      · exact h.bd c hc v y hi t ht u z
      · rw [z1, z2]; exact ho
    · exact absurd y.symm (hn c hc)
theorem Qt.head (h : Qt sec k m B j M) {c0 : Nat} {s : ByteArray} (ha : bayN k c0 < sec) (hs : s.size = 128) (ho : openOk 9 (j : Int) (bayN k c0 : Int) s = true) (hb : isRc k m B c0 (openS 9 (j : Int) (bayN k c0 : Int) s) → ∀ t, t < lkC (k : Int) (openS 9 (j : Int) (bayN k c0 : Int) s) → ∀ u, Ver M (bayN k c0 + 1 + t) u → openOk 9 (j : Int) ((bayN k c0 + 1 + t : Nat) : Int) u = true) : Qt sec k m B j (wrM M (bayN k c0 : Int) s) := by
  obtain ⟨l1, l2⟩ := wrM_L M (bayN k c0 : Int) s
  have hV : ∀ {c v}, Ver (wrM M (bayN k c0 : Int) s) c v → Ver M c v ∨ (c = bayN k c0 ∧ v = s) := fun hh => ver_wr h.al (by rw [h.ln]; exact ha) hs hh
  refine ⟨by rw [l2]; exact h.al, by rw [l1]; exact h.ln, fun c hc v hv => ?_, fun c hc v hv hi t ht u hu => ?_⟩
  · rcases hV hv with y | ⟨y, z⟩
    · exact h.hd c hc v y
    · rw [y, z]; exact ho
  · rcases hV hu with z | ⟨z1, z2⟩
    · rcases hV hv with y | ⟨y1, y2⟩
      · exact h.bd c hc v y hi t ht u z
      · unfold isRc at hi
        rw [y1] at hi ht z ⊢
        rw [y2] at hi ht
        exact hb hi t ht u z
    · rw [z1, z2]; exact ho
/-- A slot tells. -/
theorem qt_look (hG : Gm n sec k m B) (hU : Up n sec R) (hj : j < n) (h : Qt sec k m B j (R.M j)) {c : Nat} (hc : c < 2) : (lkM n R 9 (k : Int) (m : Int) B (j : Int) (bayN k c : Int)).2.2 = true := by
  have hin := (bay_in hG c).1
  have hT := top_holds12 hU.off hj h.al (c := bayN k c) (by rw [h.ln]; omega)
  have ho := h.hd c hc _ (ver_top (R.M j) (bayN k c))
  have s1 : srB n R 9 (j : Int) (bayN k c : Int) = true := by unfold srB; rw [hT.1, hT.2, ho]; rfl
  have s2 : srS n R 9 (j : Int) (bayN k c : Int) = openS 9 (j : Int) (bayN k c : Int) (topM (R.M j) (bayN k c)) := by unfold srS; rw [if_pos hT.1, hT.2]
  unfold lkM
  rw [if_pos s1]
  split
  · next hi =>
    rw [if_pos]
    intro t ht
    rw [s2] at hi ht
    have hb := h.bd c hc _ (ver_top (R.M j) (bayN k c)) hi t ht _ (ver_top (R.M j) (bayN k c + 1 + t))
    unfold lkB
    rw [show (bayN k c : Int) + 1 + (t : Int) = ((bayN k c + 1 + t : Nat) : Int) by omega]
    by_cases hl : bayN k c + 1 + t < (R.M j).L.length
    · have hT2 := top_holds12 hU.off hj h.al (c := bayN k c + 1 + t) hl
      unfold srB; rw [hT2.1, hT2.2, hb]; rfl
    · exfalso
      have hz := h.bd c hc _ (ver_top (R.M j) (bayN k c)) hi t ht _ (.inl (ver_out hl).symm)
      rw [zero_shut128] at hz
      cases hz
  · rfl
theorem qt_tells (hG : Gm n sec k m B) (hU : Up n sec R) (hj : j < n) (h : Qt sec k m B j (R.M j)) : tlM n R 9 (k : Int) (m : Int) B (j : Int) = true := by
  unfold tlM
  have hb0 := head_bay hG (q := 0) (by omega)
  have hb1 := head_bay hG (q := 1) (by omega)
  refine decide_eq_true ⟨hG.fits hU (i := 9) (by omega) (by omega), hU.off, right_list (fun x hx => by rw [List.mem_singleton.1 hx]; omega) (by simp), ?_, ?_⟩
  · rw [hb0]; exact qt_look hG hU hj h (c := 0) (by omega)
  · rw [hb1]; exact qt_look hG hU hj h (c := 1) (by omega)
theorem not_tells (hG : Gm n sec k m B) {c : Nat} (hc : c < 2) (h : (lkM n R 9 (k : Int) (m : Int) B (j : Int) (bayN k c : Int)).2.2 = false) : tlM n R 9 (k : Int) (m : Int) B (j : Int) = false := by
  unfold tlM
  have hb0 := head_bay hG (q := 0) (by omega)
  have hb1 := head_bay hG (q := 1) (by omega)
  refine decide_eq_false fun ⟨_, _, _, z0, z1⟩ => ?_
  rw [hb0] at z0
  rw [hb1] at z1
  rcases (show c = 0 ∨ c = 1 by omega) with rfl | rfl
  · exact absurd (h.symm.trans z0) (by decide)
  · exact absurd (h.symm.trans z1) (by decide)
theorem look_rotten (hG : Gm n sec k m B) (hU : Up n sec R) (hr : rightB (k : Int) (m : Int) B q ss = true) (hj : j < n) (hal : (R.M j).fd = false) {t : Nat} (ht : t ≤ (allT ss).length) (hh : t ≠ 0 → topM (R.M j) (bayN k (q % 2).toNat) = secS 9 j (bayN k (q % 2).toNat) (layS q ss)) (hs : openOk ((9 : Nat) : Int) (j : Int) ((bayN k (q % 2).toNat + t : Nat) : Int) (topM (R.M j) (bayN k (q % 2).toNat + t)) = false) :
    tlM n R 9 (k : Int) (m : Int) B (j : Int) = false := by
  have hP := hG.plc hr (i := 9) (by omega) (by omega)
  have hsz := hP.sz
  have hl := hU.l j hj
  have hsh : srB n R ((9 : Nat) : Int) (j : Int) ((bayN k (q % 2).toNat + t : Nat) : Int) = false := sr_shut (top_holds12 hU.off hj hal (by omega)) hs
  refine not_tells hG (c := (q % 2).toNat) (by omega) ?_
  by_cases h0 : t = 0
  · subst h0
    have := look_shut (K := (k : Int)) (M := (m : Int)) (B := B) hsh
    rw [show lkM n R 9 (k : Int) (m : Int) B (j : Int) (bayN k (q % 2).toNat : Int) = _ from this]
  · obtain ⟨s, rfl⟩ : ∃ s, t = s + 1 := ⟨t - 1, by omega⟩
    obtain ⟨s1, s2⟩ := hP.head hj hU.off hl hal (hh h0)
    have hL := hP.laid
    have hlk := look_body (K := (k : Int)) (M := (m : Int)) (B := B) s1 (by
      rw [s2]
      exact ⟨hL.t, by rw [hL.q]; exact hP.g⟩) (k := s) (by rw [s2, hP.c]; omega) (by
      unfold lkB
      rw [show (bayN k (q % 2).toNat : Int) + 1 + (s : Int) = ((bayN k (q % 2).toNat + (s + 1) : Nat) : Int) by omega]
      exact hsh)
    rw [show lkM n R 9 (k : Int) (m : Int) B (j : Int) (bayN k (q % 2).toNat : Int) = _ from hlk]
/-- A rack all of whose slots tell, whatever a crash keeps. -/
def Good (n sec k m : Nat) (B : Int) (R : Rk) : Prop := ∀ j, j < n → Qt sec k m B j (R.M j)
theorem Good.put (h : Good n sec k m B R) {f : Mst} (hf : Qt sec k m B j f) (e : R'.M = upd R.M j f) : Good n sec k m B R' := fun c hc => by
  rw [e]
  unfold upd
  split
  · next y => rw [y]; exact hf
  · exact h c hc
theorem act_wr {a : Nat} {s : ByteArray} (h : Good n sec k m B R) (hj : j < n) (ha : a < sec) (hs : s.size = 128) : (wrRE n R (j : Int) (a : Int) s = 90 ∧ (wrR n R (j : Int) (a : Int) s).M = R.M) ∨ (wrRE n R (j : Int) (a : Int) s = 0 ∧ (wrR n R (j : Int) (a : Int) s).M = upd R.M j (wrM (R.M j) (a : Int) s)) := by
  have hk := hasK_nat hj
  have hM : (akR n R (j : Int)).M = R.M := by unfold akR; split <;> rfl
  unfold wrRE wrR
  by_cases h0 : akE n R (j : Int) = 0
  · right
    rw [if_pos h0, if_pos h0, Int.toNat_natCast]
    refine ⟨?_, rfl⟩
    unfold wrE
    rw [if_neg (by rw [(h j hj).al]; decide), if_pos ⟨by unfold hasN; simp; rw [(h j hj).ln]; omega, hs⟩]
  · left
    rw [if_neg h0, if_neg h0]
    refine ⟨?_, hM⟩
    unfold akE at h0 ⊢
    rw [if_pos hk] at h0 ⊢
    split
    · rfl
    · next h1 =>
      rw [if_neg h1] at h0
      split
      · rfl
      · next h2 => rw [if_neg h2] at h0; exact absurd rfl h0
theorem act_fl (h : Good n sec k m B R) (hj : j < n) : (flRE n R (j : Int) = 90 ∧ (flR n R (j : Int)).M = R.M) ∨ (flRE n R (j : Int) = 0 ∧ (flR n R (j : Int)).M = upd R.M j (flM (R.M j))) := by
  have hk := hasK_nat hj
  have hM : (akR n R (j : Int)).M = R.M := by unfold akR; split <;> rfl
  unfold flRE flR
  by_cases h0 : akE n R (j : Int) = 0
  · right
    rw [if_pos h0, if_pos h0, Int.toNat_natCast]
    refine ⟨?_, rfl⟩
    unfold flE
    rw [if_neg (by rw [(h j hj).al]; decide)]
  · left
    rw [if_neg h0, if_neg h0]
    refine ⟨?_, hM⟩
    unfold akE at h0 ⊢
    rw [if_pos hk] at h0 ⊢
    split
    · rfl
    · next h1 =>
      rw [if_neg h1] at h0
      split
      · rfl
      · next h2 => rw [if_neg h2] at h0; exact absurd rfl h0
theorem upd_ne {α : Type} (M : Nat → α) (j : Nat) (x : α) {i : Nat} (h : i ≠ j) : upd M j x i = M i := if_neg h
/-- Texts, none of which lies in a head's place. -/
theorem ws_two (hn7 : n ≤ 7) (hs : sec ≤ 256) (hj : j < n) : ∀ (ps : List ByteArray) (a : Nat) (R : Rk), Good n sec k m B R → (∀ p ∈ ps, p.size ≤ 120) → (∀ t, t < ps.length → a + t < sec ∧ ∀ c, c < 2 → a + t ≠ bayN k c) →
    Good n sec k m B (wsM n 9 (j : Int) R a ps).1 ∧ (∀ i, i ≠ j → (wsM n 9 (j : Int) R a ps).1.M i = R.M i) ∧ ((wsM n 9 (j : Int) R a ps).2 = 90 ∨ ((wsM n 9 (j : Int) R a ps).2 = 0 ∧ (wsM n 9 (j : Int) R a ps).1.M j = wsG 9 ps a j (R.M j)))
  | [], a, R, h, _, _ => ⟨h, fun _ _ => rfl, .inr ⟨rfl, rfl⟩⟩
  | p :: ps, a, R, h, hz, hp => by
    obtain ⟨h0, h1⟩ := hp 0 (by simp)
    rw [Nat.add_zero] at h0 h1
    have hm : Made 9 j a p := ⟨by omega, by omega, by omega, by omega, hz p List.mem_cons_self⟩
    obtain ⟨e1, e2⟩ := seal_ok hm
    obtain ⟨o1, _, o3⟩ := open_sealed hm.i1 hm.i2 hm.l hm.a hm.q 9 (j : Int) (a : Int)
    rw [decide_eq_true ⟨rfl, rfl, rfl⟩] at o1
    unfold wsM
    rw [if_pos (show sealE 9 (j : Int) (a : Int) p = 0 from e1), show sealL 9 (j : Int) (a : Int) p = secS 9 j a p from e2]
    rcases act_wr h hj h0 o3 with ⟨w1, w2⟩ | ⟨w1, w2⟩
    · rw [if_neg (by rw [w1]; decide), w1]
      exact ⟨fun c hc => by show Qt sec k m B c ((wrR n R (j : Int) (a : Int) _).M c); rw [w2]; exact h c hc, fun i _ => by show (wrR n R (j : Int) (a : Int) _).M i = _; rw [w2], .inl rfl⟩
    · rw [if_pos w1]
      have hg : Good n sec k m B (wrR n R (j : Int) (a : Int) (secS 9 j a p)) := h.put ((h j hj).body h0 o3 h1 o1) w2
      obtain ⟨g1, g2, g3⟩ := ws_two hn7 hs hj ps (a + 1) _ hg (fun q hq => hz q (List.mem_cons_of_mem _ hq)) (fun t ht => by
        have := hp (t + 1) (by simp; omega)
        rw [show a + 1 + t = a + (t + 1) by omega]; exact this)
      refine ⟨g1, fun i hi => by rw [g2 i hi, w2, upd_ne _ _ _ hi], ?_⟩
      rcases g3 with g3 | ⟨g3, g4⟩
      · exact .inl g3
      · refine .inr ⟨g3, ?_⟩
        rw [g4, w2, upd_at]; rfl
theorem ea_all (f : Rk → Int → Rk × Int) (G : Rk → Prop) (P Q : Nat → Mst → Prop) (hf : ∀ R j, j < n → G R → P j (R.M j) → G (f R (j : Int)).1 ∧ (∀ i, i ≠ j → (f R (j : Int)).1.M i = R.M i) ∧ ((f R (j : Int)).2 = 90 ∨ ((f R (j : Int)).2 = 0 ∧ Q j ((f R (j : Int)).1.M j)))) :
    ∀ (l : List Nat) (R : Rk) (acc : List Int), l.Nodup → (∀ j ∈ l, j < n) → G R → (∀ j ∈ l, P j (R.M j)) →
      G (ea f R acc (l.map fun i : Nat => (i : Int))).1 ∧ (∀ i, i ∉ l → (ea f R acc (l.map fun i : Nat => (i : Int))).1.M i = R.M i) ∧ ((ea f R acc (l.map fun i : Nat => (i : Int))).2.2 = 90 ∨ ((ea f R acc (l.map fun i : Nat => (i : Int))).2.2 = 0 ∧ (ea f R acc (l.map fun i : Nat => (i : Int))).2.1 = acc ∧ ∀ j ∈ l, Q j ((ea f R acc (l.map fun i : Nat => (i : Int))).1.M j)))
  | [], R, acc, _, _, h, _ => ⟨h, fun _ _ => rfl, .inr ⟨rfl, rfl, fun _ hj => by cases hj⟩⟩
  | x :: xs, R, acc, hnd, hl, h, hP => by
    have hx := hl x List.mem_cons_self
    have hxn : x ∉ xs := (List.nodup_cons.1 hnd).1
    obtain ⟨f1, f2, f3⟩ := hf R x hx h (hP x List.mem_cons_self)
    rw [List.map_cons]
    unfold ea
    rcases f3 with f3 | ⟨f3, f4⟩
    · rw [if_neg (by rw [f3]; decide), if_neg (by rw [f3]; decide)]
      exact ⟨f1, fun i hi => f2 i (fun e => hi (by rw [e]; exact List.mem_cons_self)), .inl f3⟩
    · rw [if_pos f3]
      obtain ⟨g1, g2, g3⟩ := ea_all f G P Q hf xs (f R (x : Int)).1 acc (List.nodup_cons.1 hnd).2 (fun j hj => hl j (List.mem_cons_of_mem _ hj)) f1 (fun j hj => by
        rw [f2 j (fun e => hxn (by rw [← e]; exact hj))]; exact hP j (List.mem_cons_of_mem _ hj))
      refine ⟨g1, fun i hi => ?_, ?_⟩
      · rw [g2 i (fun y => hi (List.mem_cons_of_mem _ y)), f2 i (fun e => hi (by rw [e]; exact List.mem_cons_self))]
      · rcases g3 with g3 | ⟨g3, g4, g5⟩
        · exact .inl g3
        · refine .inr ⟨g3, g4, fun j hj => ?_⟩
          rcases List.mem_cons.1 hj with rfl | hj
          · rw [g2 j hxn]; exact f4
          · exact g5 j hj
/-- A record lies whole in its bay, whatever a crash keeps. -/
structure Fin12 (k : Nat) (q : Int) (ss : List St) (j : Nat) (M : Mst) : Prop where
  h : ∀ u, Ver M (bayN k (q % 2).toNat) u → u = secS 9 j (bayN k (q % 2).toNat) (layS q ss)
  b : ∀ t, t < (allT ss).length → ∀ u, Ver M (bayN k (q % 2).toNat + 1 + t) u → u = secS 9 j (bayN k (q % 2).toNat + 1 + t) ((allT ss).getD t ⟨#[]⟩)
theorem put_two (hG : Gm n sec k m B) (hr : rightB (k : Int) (m : Int) B q ss = true) (h : Good n sec k m B R) : ∃ R' e, puM n R 9 (k : Int) (m : Int) B (allL n) q ss = (R', [], e) ∧ Good n sec k m B R' ∧ (e = 90 ∨ (e = 0 ∧ ∀ j, j < n → Fin12 k q ss j (R'.M j))) := by
  have hrg := hG.rng
  have hn7 : n ≤ 7 := by omega
  have hs : sec ≤ 256 := by omega
  have hbl := body_len hG hr
  have hbi := (bay_in hG (q % 2).toNat).1
  have hPl := hG.plc hr (i := 9) (by omega) (by omega)
  have hL := hPl.laid
  obtain ⟨c0, hc0⟩ : ∃ c, (q % 2).toNat = c := ⟨_, rfl⟩
  have hc2 : c0 < 2 := by omega
  have hfit : sfitsB n R 9 (k : Int) (m : Int) B = true := by
    have h1 := hG.n
    have hz : szK R = sec := (h 0 (by omega)).ln
    unfold sfitsB
    rw [hG.g, hz, hG.s, slots_eq hG.g, decide_eq_true (show (1 : Int) ≤ 9 by omega), decide_eq_true (show (9 : Int) ≤ 65535 by omega), decide_eq_true (Int.le_refl _)]
    simp
    omega
  rw [hc0] at hbi hPl
  obtain ⟨T, hT⟩ : ∃ T, allT ss = T := ⟨_, rfl⟩
  obtain ⟨H, hH⟩ : ∃ H, layS q ss = H := ⟨_, rfl⟩
  have hHz : H.size ≤ 120 := by rw [← hH]; exact hPl.hz
  have hTz : ∀ p ∈ T, p.size ≤ 120 := fun p hp => by rw [← hT] at hp; exact Nat.le_of_eq (hPl.bz p hp)
  have hTl : T.length ≤ 16 * k := by rw [← hT]; exact hbl.2.1
  have hopen : ∀ (j a : Nat) (p : ByteArray), j < n → a ≤ 255 → p.size ≤ 120 → openOk 9 (j : Int) (a : Int) (secS 9 j a p) = true ∧ (secS 9 j a p).size = 128 ∧ openS 9 (j : Int) (a : Int) (secS 9 j a p) = padB p 120 := fun j a p hj ha hp => by
    obtain ⟨o1, o2, o3⟩ := open_sealed (i := 9) (l := j) (a := a) (q := p) (by omega) (by omega) (by omega) ha hp 9 (j : Int) (a : Int)
    rw [decide_eq_true ⟨rfl, rfl, rfl⟩] at o1
    exact ⟨o1, o3, by unfold openS; rw [if_pos o1, o2]⟩
  -- what each step leaves
  have st0 := ea_all (n := n) (putF n 9 (bayN k c0) H T 0) (Good n sec k m B) (fun _ _ => True) (fun j M => ∀ t, t < T.length → topM M (bayN k c0 + 1 + t) = secS 9 j (bayN k c0 + 1 + t) (T.getD t ⟨#[]⟩)) (fun R j hj hg _ => by
    obtain ⟨g1, g2, g3⟩ := ws_two hn7 hs hj T (bayN k c0 + 1) R hg hTz (fun t ht => ⟨by omega, fun c hc e => by
      have := bay_apart (k := k) c c0 0 hc hc2
      have h3 := bay_in hG c
      rcases Classical.em (c = c0) with z | z
      · rw [z] at e; omega
      · have := this z (by omega); omega⟩)
    refine ⟨g1, g2, ?_⟩
    rcases g3 with g3 | ⟨g3, g4⟩
    · exact .inl g3
    · refine .inr ⟨g3, fun t ht => ?_⟩
      have e : (putF n 9 (bayN k c0) H T 0 R (j : Int)).1.M j = wsG 9 T (bayN k c0 + 1) j (R.M j) := g4
      rw [e, top_ws (by omega) (by omega) (by omega) T _ _ (hg j hj).al (by rw [(hg j hj).ln]; omega) (by rw [(hg j hj).ln]; omega) hTz, if_pos (by omega), show bayN k c0 + 1 + t - (bayN k c0 + 1) = t by omega])
  have st1 := ea_all (n := n) (putF n 9 (bayN k c0) H T 1) (Good n sec k m B) (fun j M => ∀ t, t < T.length → topM M (bayN k c0 + 1 + t) = secS 9 j (bayN k c0 + 1 + t) (T.getD t ⟨#[]⟩)) (fun j M => ∀ t, t < T.length → ∀ u, Ver M (bayN k c0 + 1 + t) u → u = secS 9 j (bayN k c0 + 1 + t) (T.getD t ⟨#[]⟩)) (fun R j hj hg hp => by
    show Good n sec k m B (flR n R (j : Int)) ∧ (∀ i, i ≠ j → (flR n R (j : Int)).M i = R.M i) ∧ (flRE n R (j : Int) = 90 ∨ (flRE n R (j : Int) = 0 ∧ _))
    rcases act_fl hg hj with ⟨w1, w2⟩ | ⟨w1, w2⟩
    · exact ⟨fun c hc => by rw [w2]; exact hg c hc, fun i _ => by rw [w2], .inl w1⟩
    · refine ⟨hg.put (hg j hj).flush w2, fun i hi => by rw [w2, upd_ne _ _ _ hi], .inr ⟨w1, fun t ht u hu => ?_⟩⟩
      have hu' : Ver (flM (R.M j)) (bayN k c0 + 1 + t) u := by
        have e : (putF n 9 (bayN k c0) H T 1 R (j : Int)).1.M j = flM (R.M j) := by show (flR n R (j : Int)).M j = _; rw [w2, upd_at]
        rw [e] at hu; exact hu
      rw [ver_fl (hg j hj).al (by rw [(hg j hj).ln]; omega) hu']
      exact hp t ht)
  have st2 := ea_all (n := n) (putF n 9 (bayN k c0) H T 2) (Good n sec k m B) (fun j M => ∀ t, t < T.length → ∀ u, Ver M (bayN k c0 + 1 + t) u → u = secS 9 j (bayN k c0 + 1 + t) (T.getD t ⟨#[]⟩)) (fun j M => topM M (bayN k c0) = secS 9 j (bayN k c0) H ∧ ∀ t, t < T.length → topM M (bayN k c0 + 1 + t) = secS 9 j (bayN k c0 + 1 + t) (T.getD t ⟨#[]⟩)) (fun R j hj hg hp => by
    show Good n sec k m B (wsM n 9 (j : Int) R (bayN k c0) [H]).1 ∧ (∀ i, i ≠ j → (wsM n 9 (j : Int) R (bayN k c0) [H]).1.M i = R.M i) ∧ ((wsM n 9 (j : Int) R (bayN k c0) [H]).2 = 90 ∨ ((wsM n 9 (j : Int) R (bayN k c0) [H]).2 = 0 ∧ _))
    have hm : Made 9 j (bayN k c0) H := ⟨by omega, by omega, by omega, by omega, hHz⟩
    obtain ⟨e1, e2⟩ := seal_ok hm
    obtain ⟨o1, o3, o2⟩ := hopen j (bayN k c0) H hj (by omega) hHz
    unfold wsM
    rw [if_pos (show sealE 9 (j : Int) (bayN k c0 : Int) H = 0 from e1), show sealL 9 (j : Int) (bayN k c0 : Int) H = secS 9 j (bayN k c0) H from e2]
    rcases act_wr hg hj (show bayN k c0 < sec by omega) o3 with ⟨w1, w2⟩ | ⟨w1, w2⟩
    · rw [if_neg (by rw [w1]; decide)]
      exact ⟨fun c hc => by show Qt sec k m B c ((wrR n R (j : Int) (bayN k c0 : Int) _).M c); rw [w2]; exact hg c hc, fun i _ => by show (wrR n R (j : Int) (bayN k c0 : Int) _).M i = _; rw [w2], .inl w1⟩
    · rw [if_pos w1]
      unfold wsM
      have hq : Qt sec k m B j (wrM (R.M j) (bayN k c0 : Int) (secS 9 j (bayN k c0) H)) := (hg j hj).head (by omega) o3 o1 (fun hi t ht u hu => by
        rw [o2, ← hH] at ht
        rw [hPl.c, hT] at ht
        rw [hp t ht u hu]
        exact (hopen j (bayN k c0 + 1 + t) _ hj (by omega) (by
          rw [List.getD_eq_getElem?_getD, List.getElem?_eq_getElem ht]; exact hTz _ (List.getElem_mem ht))).1)
      refine ⟨hg.put hq w2, fun i hi => by show (wrR n R (j : Int) (bayN k c0 : Int) _).M i = _; rw [w2, upd_ne _ _ _ hi], .inr ⟨rfl, ?_⟩⟩
      have e : (putF n 9 (bayN k c0) H T 2 R (j : Int)).1.M j = wrM (R.M j) (bayN k c0 : Int) (secS 9 j (bayN k c0) H) := by
        show (wsM n 9 (j : Int) R (bayN k c0) [H]).1.M j = _
        unfold wsM
        rw [if_pos (show sealE 9 (j : Int) (bayN k c0 : Int) H = 0 from e1), show sealL 9 (j : Int) (bayN k c0 : Int) H = secS 9 j (bayN k c0) H from e2, if_pos w1]
        unfold wsM
        show (wrR n R (j : Int) (bayN k c0 : Int) _).M j = _
        rw [w2, upd_at]
      rw [e]
      refine ⟨by rw [top_wr (hg j hj).al (by rw [(hg j hj).ln]; omega) o3, if_pos rfl], fun t ht => ?_⟩
      rw [top_wr (hg j hj).al (by rw [(hg j hj).ln]; omega) o3, if_neg (by omega)]
      exact hp t ht _ (ver_top _ _))
  have st3 := ea_all (n := n) (putF n 9 (bayN k c0) H T 3) (Good n sec k m B) (fun j M => topM M (bayN k c0) = secS 9 j (bayN k c0) H ∧ ∀ t, t < T.length → topM M (bayN k c0 + 1 + t) = secS 9 j (bayN k c0 + 1 + t) (T.getD t ⟨#[]⟩)) (fun j M => Fin12 k q ss j M) (fun R j hj hg hp => by
    show Good n sec k m B (flR n R (j : Int)) ∧ (∀ i, i ≠ j → (flR n R (j : Int)).M i = R.M i) ∧ (flRE n R (j : Int) = 90 ∨ (flRE n R (j : Int) = 0 ∧ _))
    rcases act_fl hg hj with ⟨w1, w2⟩ | ⟨w1, w2⟩
    · exact ⟨fun c hc => by rw [w2]; exact hg c hc, fun i _ => by rw [w2], .inl w1⟩
    · refine ⟨hg.put (hg j hj).flush w2, fun i hi => by rw [w2, upd_ne _ _ _ hi], .inr ⟨w1, ?_⟩⟩
      have e : (putF n 9 (bayN k c0) H T 3 R (j : Int)).1.M j = flM (R.M j) := by show (flR n R (j : Int)).M j = _; rw [w2, upd_at]
      rw [e]
      refine ⟨fun u hu => ?_, fun t ht u hu => ?_⟩
      · rw [hc0] at hu ⊢
        rw [ver_fl (hg j hj).al (by rw [(hg j hj).ln]; omega) hu, hH]; exact hp.1
      · rw [hc0] at hu ⊢
        rw [hT] at ht ⊢
        rw [ver_fl (hg j hj).al (by rw [(hg j hj).ln]; omega) hu]; exact hp.2 t ht)
  have hnd : (List.range n).Nodup := List.nodup_range
  have hrl : ∀ j ∈ List.range n, j < n := fun j hj => List.mem_range.1 hj
  have hmem : ∀ j, j < n → j ∈ List.range n := fun j hj => List.mem_range.2 hj
  have hg0 : (gHead (k : Int) (m : Int) B q).toNat = bayN k c0 := by rw [head_bay hG (by have := (right_g hr).2; omega), hc0]; exact Int.toNat_natCast _
  obtain ⟨a1, _, a3⟩ := st0 (List.range n) R [] hnd hrl h (fun _ _ => trivial)
  have hpu : puM n R 9 (k : Int) (m : Int) B (allL n) q ss = puX n 9 (bayN k c0) H T R (allL n) := by
    unfold puM
    rw [if_pos ⟨hfit, right_list (fun x hx => allL_mem.1 hx) allL_nodup⟩, if_pos hr, hg0, hH, hT]
  have hkeep : ∀ (Rx : Rk) (e : Int), e ≠ 0 → phs (putS n 9 (bayN k c0) H T) R (allL n) = (Rx, [], e) → puX n 9 (bayN k c0) H T R (allL n) = (Rx, [], e) := fun Rx e he hp => by
    unfold puX
    rw [hp, if_neg he]
  have hp0 := phs_drop (n := n) (id := 9) (a := bayN k c0) (h := H) (b := T) (i := 0) (by omega) R (allL n)
  rw [List.drop_zero] at hp0
  have hall : allL n = (List.range n).map fun i : Nat => (i : Int) := rfl
  rw [hpu]
  rw [← hall] at a1 a3
  rcases a3 with a3 | ⟨a3, a4, a5⟩
  · rw [if_neg (by rw [a3]; decide), a3] at hp0
    exact ⟨_, 90, hkeep _ 90 (by decide) hp0, a1, .inl rfl⟩
  rw [if_pos a3, a4, keep_nilS] at hp0
  obtain ⟨b1, _, b3⟩ := st1 (List.range n) (ea (putF n 9 (bayN k c0) H T 0) R [] (allL n)).1 [] hnd hrl a1 (fun j hj => a5 j hj)
  have hp1 := phs_drop (n := n) (id := 9) (a := bayN k c0) (h := H) (b := T) (i := 1) (by omega) (ea (putF n 9 (bayN k c0) H T 0) R [] (allL n)).1 (allL n)
  rw [hp1] at hp0
  rw [← hall] at b1 b3
  rcases b3 with b3 | ⟨b3, b4, b5⟩
  · rw [if_neg (by rw [b3]; decide), b3] at hp0
    exact ⟨_, 90, hkeep _ 90 (by decide) hp0, b1, .inl rfl⟩
  rw [if_pos b3, b4, keep_nilS] at hp0
  generalize (ea (putF n 9 (bayN k c0) H T 1) (ea (putF n 9 (bayN k c0) H T 0) R [] (allL n)).1 [] (allL n)).1 = R2 at *
  obtain ⟨c1, _, c3⟩ := st2 (List.range n) R2 [] hnd hrl b1 (fun j hj => b5 j hj)
  have hp2 := phs_drop (n := n) (id := 9) (a := bayN k c0) (h := H) (b := T) (i := 2) (by omega) R2 (allL n)
  rw [hp2] at hp0
  rw [← hall] at c1 c3
  rcases c3 with c3 | ⟨c3, c4, c5⟩
  · rw [if_neg (by rw [c3]; decide), c3] at hp0
    exact ⟨_, 90, hkeep _ 90 (by decide) hp0, c1, .inl rfl⟩
  rw [if_pos c3, c4, keep_nilS] at hp0
  generalize (ea (putF n 9 (bayN k c0) H T 2) R2 [] (allL n)).1 = R3 at *
  obtain ⟨d1, _, d3⟩ := st3 (List.range n) R3 [] hnd hrl c1 (fun j hj => c5 j hj)
  have hp3 := phs_drop (n := n) (id := 9) (a := bayN k c0) (h := H) (b := T) (i := 3) (by omega) R3 (allL n)
  rw [hp3] at hp0
  rw [← hall] at d1 d3
  rcases d3 with d3 | ⟨d3, d4, d5⟩
  · rw [if_neg (by rw [d3]; decide), d3] at hp0
    exact ⟨_, 90, hkeep _ 90 (by decide) hp0, d1, .inl rfl⟩
  rw [if_pos d3, d4, keep_nilS] at hp0
  generalize (ea (putF n 9 (bayN k c0) H T 3) R3 [] (allL n)).1 = R4 at *
  rw [show 3 + 1 = 4 from rfl, phs_end] at hp0
  refine ⟨R4, 0, ?_, d1, .inr ⟨rfl, fun j hj => d5 j (hmem j hj)⟩⟩
  unfold puX
  rw [hp0, if_pos rfl]
  have e : keepL (allL n) (allL n) = [] := List.filter_eq_nil_iff.2 fun x hx => by simp [hx]
  show (R4, keepL (allL n) (allL n), (0 : Int)) = _
  rw [e]
end
end Go.Proofs.YtfadglcpapiklaaGreatDoor
