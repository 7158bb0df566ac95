import Derived.Test.YtjgafpkpoppcbaaGreatDoorLstr
set_option linter.unusedVariables false
set_option linter.unusedSimpArgs false
namespace Go.Proofs.YtjgafpkpoppcbaaGreatDoor
open Go.RowKit
set_option maxRecDepth 100000
section
variable {n sec k m a i : Nat} {R R0 : Rk} {gone : List Bool} {B N id : Int} {l : List Int} {data : List ByteArray}
theorem sec_le (hg : gR (k : Int) (m : Int) B = true) (hN0 : 0 ≤ N) (hN1 : N < gStripes (k : Int) (m : Int) B) (hs : gSectors (k : Int) (m : Int) B = (sec : Int)) : ∃ a : Nat, gSector (k : Int) (m : Int) B N = (a : Int) ∧ a ≤ 255 ∧ a < sec ∧ (a : Int) = 4 + 32 * (k : Int) + N := by
  have h1 := sector_eq hg hN0 hN1
  have h2 := sectors_eq hg
  rw [hs] at h2
  rw [stripes_eq hg] at hN1
  obtain ⟨k1, _, b1, b2⟩ := k_cases hg
  generalize gSector (k : Int) (m : Int) B N = x at h1 ⊢
  refine ⟨x.toNat, ?_⟩
  rcases k1 with e | e | e | e <;> rw [e] at h1 h2 hN1 ⊢ <;> omega
theorem allow_sz (hsz : szK R = sec) (hg : gR (k : Int) (m : Int) B = true) (hn : n = k + m) (hs : gSectors (k : Int) (m : Int) B = (sec : Int)) (hid : 1 ≤ id ∧ id ≤ 65535) (hN0 : 0 ≤ N) (hN1 : N < gStripes (k : Int) (m : Int) B) (hl : ∀ x ∈ l, 0 ≤ x ∧ x < (n : Int)) (hnd : l.Nodup) : allowB n R id (k : Int) (m : Int) B l N = true := by
  unfold allowB sfitsB srightB
  rw [decide_eq_true hid.1, decide_eq_true hid.2, hg, slots_eq hg, hs, hsz, decide_eq_true (Int.le_refl _), decide_eq_true ⟨hl, hnd⟩, decide_eq_true hN0, decide_eq_true hN1]
  simp
  omega
theorem made_word (hg : gR (k : Int) (m : Int) B = true) (hn : n = k + m) (hd : dataB (k : Int) data = true) (hi : 1 ≤ i ∧ i ≤ 65535) (ha : a ≤ 255) (hal : allowB n R id (k : Int) (m : Int) B l N = true) {j : Nat} (hj : j < n) (hm : (j : Int) ∈ l) : Made i j a (wordF k m B N data (j : Int)) := by
  have := k_cases hg
  exact ⟨hi.1, hi.2, by omega, ha, Nat.le_of_eq (word_size hg hn hd hal hm)⟩
theorem read_all (h : Hale n sec R) (hg : gR (k : Int) (m : Int) B = true) (hn : n = k + m) (hs : gSectors (k : Int) (m : Int) B = (sec : Int)) (hi : 1 ≤ i ∧ i ≤ 65535) (hN0 : 0 ≤ N) (hN1 : N < gStripes (k : Int) (m : Int) B) (hga : gSector (k : Int) (m : Int) B N = (a : Int)) (hd : dataB (k : Int) data = true) (ht : ∀ j, j < n → topS R j a = secS i j a (wordF k m B N data (j : Int))) (hl : ∀ x ∈ l, 0 ≤ x ∧ x < (n : Int)) (hnd : l.Nodup) (hk : k ≤ l.length) : stR n R (i : Int) (k : Int) (m : Int) B l N = (data, [], 0) := by
  obtain ⟨a', ha1, ha2, ha3, _⟩ := sec_le hg hN0 hN1 hs
  obtain rfl : a' = a := by omega
  have hal := allow_sz (l := l) (id := (i : Int)) h.sz hg hn hs (by omega) hN0 hN1 hl hnd
  rw [stR_by hal h.off hd (fun _ => true) (fun x hx _ => by
    obtain ⟨j, rfl⟩ := Int.eq_ofNat_of_zero_le (hl x hx).1
    have hj : j < n := by have := (hl _ hx).2; omega
    have hh := top_holds h hj ha3
    rw [ht j hj] at hh
    rw [hga]
    exact sr_sealed (by omega) (by rw [Int.toNat_natCast]; exact made_word hg hn hd hi ha2 hal hj hx) (word_size hg hn hd hal hx) (by rw [Int.toNat_natCast]; exact hh)) (fun x hx e => by simp at e)]
  rw [List.filter_eq_self.2 (fun _ _ => rfl), if_pos hk, List.filter_eq_nil_iff.2 (by simp)]
theorem read_none {i' : Nat} (h : Hale n sec R) (hg : gR (k : Int) (m : Int) B = true) (hn : n = k + m) (hs : gSectors (k : Int) (m : Int) B = (sec : Int)) (hi : 1 ≤ i ∧ i ≤ 65535) (hi' : 1 ≤ i' ∧ i' ≤ 65535) (hne : i ≠ i') (hN0 : 0 ≤ N) (hN1 : N < gStripes (k : Int) (m : Int) B) (hga : gSector (k : Int) (m : Int) B N = (a : Int)) (hd : dataB (k : Int) data = true) (ht : ∀ j, j < n → topS R j a = secS i' j a (wordF k m B N data (j : Int))) (hl : ∀ x ∈ l, 0 ≤ x ∧ x < (n : Int)) (hnd : l.Nodup) : stR n R (i : Int) (k : Int) (m : Int) B l N = ([], l, 130) := by
  obtain ⟨a', ha1, ha2, ha3, _⟩ := sec_le hg hN0 hN1 hs
  obtain rfl : a' = a := by omega
  have hal := allow_sz (l := l) (id := (i : Int)) h.sz hg hn hs (by omega) hN0 hN1 hl hnd
  have hk := k_cases hg
  rw [stR_by hal h.off hd (fun _ => false) (fun x hx e => by simp at e) (fun x hx _ => by
    obtain ⟨j, rfl⟩ := Int.eq_ofNat_of_zero_le (hl x hx).1
    have hj : j < n := by have := (hl _ hx).2; omega
    have hh := top_holds h hj ha3
    rw [ht j hj] at hh
    rw [hga]
    have hm := made_word hg hn hd hi' ha2 hal hj hx
    refine sr_shut hh ?_
    rw [(open_sealed hm.i1 hm.i2 hm.l hm.a hm.q (i : Int) (j : Int) (a' : Int)).1]
    exact decide_eq_false (fun (e : (i : Int) = (i' : Int) ∧ _ ∧ _) => hne (Int.ofNat_inj.1 e.1)))]
  have e1 : l.filter (fun _ => false) = [] := List.filter_eq_nil_iff.2 (by simp)
  have e2 : l.filter (fun _ => !false) = l := List.filter_eq_self.2 (fun _ _ => rfl)
  rw [e1, e2, if_neg (by simp; omega)]
theorem allL_len' : (allL n).length = n := by simp [allL]
theorem apart_model {d c : List ByteArray} {N' : Int} (hg : gR (k : Int) (m : Int) B = true) (hn : n = k + m) (hs : gSectors (k : Int) (m : Int) B = (sec : Int)) (hi : 1 ≤ i ∧ i ≤ 65535) (hN0 : 0 ≤ N) (hN1 : N < gStripes (k : Int) (m : Int) B) (hM0 : 0 ≤ N') (hM1 : N' < gStripes (k : Int) (m : Int) B) (hd : dataB (k : Int) d = true) (hc : dataB (k : Int) c = true) :
    ∃ R1 R2, stW n (R00 sec) 3 (k : Int) (m : Int) B (allL n) N d = (R1, [], 0) ∧ stW n R1 (i : Int) (k : Int) (m : Int) B (allL n) N' c = (R2, [], 0) ∧ stR n R2 (i : Int) (k : Int) (m : Int) B (allL n) N' = (c, [], 0) ∧ (N ≠ N' → stR n R2 3 (k : Int) (m : Int) B (allL n) N = (d, [], 0)) ∧ (N = N' → i ≠ 3 → stR n R2 3 (k : Int) (m : Int) B (allL n) N = ([], allL n, 130)) ∧ (N = N' → i = 3 → stR n R2 3 (k : Int) (m : Int) B (allL n) N = (c, [], 0)) := by
  have hk := k_cases hg
  obtain ⟨a, ha1, ha2, ha3, ha4⟩ := sec_le hg hN0 hN1 hs
  obtain ⟨b, hb1, hb2, hb3, hb4⟩ := sec_le hg hM0 hM1 hs
  have h0 : Hale n sec (R00 sec) := hale_00 (by omega) (by omega)
  have hall : ∀ x ∈ allL n, 0 ≤ x ∧ x < (n : Int) := fun x hx => allL_mem.1 hx
  have h3 : (1 : Nat) ≤ 3 ∧ 3 ≤ 65535 := by decide
  have al0 := allow_sz (l := allL n) (id := ((3 : Nat) : Int)) h0.sz hg hn hs (by decide) hN0 hN1 hall allL_nodup
  have h1 : Hale n sec (RW 3 a (wordF k m B N d) (allL n) (R00 sec)) := hale_RW h0 _
  have al1 := allow_sz (l := allL n) (id := (i : Int)) h1.sz hg hn hs (by omega) hM0 hM1 hall allL_nodup
  have h2 : Hale n sec (RW i b (wordF k m B N' c) (allL n) (RW 3 a (wordF k m B N d) (allL n) (R00 sec))) := hale_RW h1 _
  have mem : ∀ j, j < n → (j : Int) ∈ allL n := fun j hj => allL_mem.2 (by omega)
  have t1 : ∀ j, j < n → topS (RW 3 a (wordF k m B N d) (allL n) (R00 sec)) j a = secS 3 j a (wordF k m B N d (j : Int)) := fun j hj => by
    rw [top_RW h0 _ hj ha3 (fun hm => made_word hg hn hd h3 ha2 al0 hj hm), if_pos ⟨mem j hj, rfl⟩]
  have t2 : ∀ j e, j < n → topS (RW i b (wordF k m B N' c) (allL n) (RW 3 a (wordF k m B N d) (allL n) (R00 sec))) j e = if e = b then secS i j b (wordF k m B N' c (j : Int)) else topS (RW 3 a (wordF k m B N d) (allL n) (R00 sec)) j e := fun j e hj => by
    rw [top_RW h1 _ hj hb3 (fun hm => made_word hg hn hc hi hb2 al1 hj hm)]
    by_cases z : e = b
    · rw [if_pos ⟨mem j hj, z⟩, if_pos z]
    · rw [if_neg fun y => z y.2, if_neg z]
  have tb : ∀ j, j < n → topS (RW i b (wordF k m B N' c) (allL n) (RW 3 a (wordF k m B N d) (allL n) (R00 sec))) j b = secS i j b (wordF k m B N' c (j : Int)) := fun j hj => by rw [t2 j b hj, if_pos rfl]
  have hkl : k ≤ (allL n).length := by rw [allL_len']; omega
  refine ⟨_, _, stW_hale (i := 3) h0 hn al0 hd ha1, stW_hale h1 hn al1 hc hb1, read_all h2 hg hn hs hi hM0 hM1 hb1 hc tb hall allL_nodup hkl, fun hne => ?_, fun he h3' => ?_, fun he h3' => ?_⟩
  · exact read_all (i := 3) h2 hg hn hs h3 hN0 hN1 ha1 hd (fun j hj => by rw [t2 j a hj, if_neg (by omega), t1 j hj]) hall allL_nodup hkl
  · obtain rfl : a = b := by omega
    subst he
    exact read_none (i := 3) h2 hg hn hs h3 hi (fun e => h3' e.symm) hN0 hN1 ha1 hc tb hall allL_nodup
  · obtain rfl : a = b := by omega
    subst he
    subst h3'
    exact read_all (i := 3) h2 hg hn hs h3 hN0 hN1 ha1 hc tb hall allL_nodup hkl
structure Spoilt (n sec : Nat) (a : Nat) (R0 R : Rk) (gone : List Bool) : Prop where
  off : R.off = false
  ln : gone.length = n
  ok : ∀ j, j < n → gone.getD j false = false → R.M j = R0.M j
  bad : ∀ j : Nat, j < n → gone.getD j false = true → srB n R 3 (j : Int) (a : Int) = false
  l : ∀ j, j < n → (R.M j).L.length = sec
theorem srB_up {x j : Nat} (f : Mst → Mst) (hx : x ≠ j) (hj : j < n) (a : Int) : srB n (upR n R (j : Int) f) id (x : Int) a = srB n R id (x : Int) a := by
  have h1 : rhE n (upR n R (j : Int) f) (x : Int) = rhE n R (x : Int) := by rw [upR_eq hj]; rfl
  have h2 : (upR n R (j : Int) f).M (x : Int).toNat = R.M (x : Int).toNat := by
    rw [upR_eq hj, Int.toNat_natCast]
    exact upd_other _ _ _ _ hx
  unfold srB rdRE rdRS
  rw [h1, h2]
theorem Spoilt.up (h : Spoilt n sec a R0 R gone) {j : Nat} (hj : j < n) (f : Mst → Mst) (hf : (f (R.M j)).L.length = (R.M j).L.length) (hb : srB n (upR n R (j : Int) f) 3 (j : Int) (a : Int) = false) : Spoilt n sec a R0 (upR n R (j : Int) f) (gone.set j true) := by
  refine ⟨by rw [upR_eq hj]; exact h.off, by rw [List.length_set]; exact h.ln, fun t ht hg => ?_, fun t ht hg => ?_, fun t ht => ?_⟩
  · have e : t ≠ j := fun e => by
      subst e
      rw [List.getD_eq_getElem?_getD, List.getElem?_set_self (by rw [h.ln]; exact hj)] at hg
      simp at hg
    rw [List.getD_eq_getElem?_getD, List.getElem?_set_ne (fun z => e z.symm), ← List.getD_eq_getElem?_getD] at hg
    rw [upR_eq hj]
    show upd R.M j _ t = _
    rw [upd_other _ _ _ _ e]; exact h.ok t ht hg
  · by_cases e : t = j
    · subst e; exact hb
    · rw [List.getD_eq_getElem?_getD, List.getElem?_set_ne (fun z => e z.symm), ← List.getD_eq_getElem?_getD] at hg
      rw [srB_up f e hj]; exact h.bad t ht hg
  · rw [upR_eq hj]
    show (upd R.M j _ t).L.length = _
    by_cases e : t = j
    · subst e; rw [upd_same, hf]; exact h.l t ht
    · rw [upd_other _ _ _ _ e]; exact h.l t ht
theorem Spoilt.fail (h : Spoilt n sec a R0 R gone) {j : Nat} (hj : j < n) : Spoilt n sec a R0 (upR n R (j : Int) faM) (gone.set j true) :=
  h.up hj _ (by simp [faM]) (sr_dead (by
    rw [upR_eq hj]
    unfold rdRE
    have hr : rhE n (⟨upd R.M j (faM (R.M j)), R.off, R.acts, R.armed⟩ : Rk) (j : Int) = 0 := rhE_well h.off ⟨by omega, by omega⟩
    rw [if_pos hr, Int.toNat_natCast]
    show rdE (upd R.M j (faM (R.M j)) j) (a : Int) ≠ 0
    rw [upd_same]
    unfold rdE faM
    simp))
theorem Spoilt.blank (h : Spoilt n sec a R0 R gone) {j : Nat} (hj : j < n) (ha : a < sec) : Spoilt n sec a R0 (upR n R (j : Int) blM) (gone.set j true) :=
  h.up hj _ (by simp [blM]) (sr_shut (s := zero128) (by
    have hl := h.l j hj
    rw [upR_eq hj]
    refine holds_of h.off ⟨by omega, by omega⟩ ?_ ?_ ?_
    · rw [Int.toNat_natCast]; show (upd R.M j (blM (R.M j)) j).fd = false; rw [upd_same]; rfl
    · rw [Int.toNat_natCast]; show a < (upd R.M j (blM (R.M j)) j).L.length; rw [upd_same]; simp [blM]; omega
    · rw [Int.toNat_natCast]; show lastOf ((upd R.M j (blM (R.M j)) j).V (a : Int)) ((upd R.M j (blM (R.M j)) j).L.getD a zero128) = zero128
      rw [upd_same]
      show (List.replicate (R.M j).L.length zero128).getD a zero128 = zero128
      rw [List.getD_eq_getElem?_getD, List.getElem?_replicate_of_lt (by omega)]; rfl) (zero_shut128 _ _ _))
theorem Spoilt.rot (h : Spoilt n sec a R0 R gone) {j b c : Nat} {p : ByteArray} (hj : j < n) (ha : a < sec) (hg : gone.getD j false = false) (hal : (R0.M j).fd = false) (hV : (R0.M j).V (a : Int) = []) (ht : topS R0 j a = secS 3 j a p) (hm : Made 3 j a p) (hb : b < 128) (hc0 : 1 ≤ c) (hc : c ≤ 255) : Spoilt n sec a R0 (upR n R (j : Int) fun M => roM M (a : Int) (b : Int) (c : Int)) (gone.set j true) := by
  have hl := h.l j hj
  have hM := h.ok j hj hg
  have hr : rotB (R.M j).fd (R.M j).L (R.M j).V (a : Int) (b : Int) (c : Int) = true := by
    unfold rotB
    have hh : hasN (R.M j).L (a : Int) = true := by unfold hasN; simp; omega
    rw [hh, hM, hal, hV, decide_eq_false (show ¬ (b : Int) < 0 by omega), decide_eq_false (show ¬ (128 : Int) ≤ (b : Int) by omega), decide_eq_false (show ¬ (c : Int) < 1 by omega), decide_eq_false (show ¬ (255 : Int) < (c : Int) by omega)]
    rfl
  have e1 : roM (R.M j) (a : Int) (b : Int) (c : Int) = ⟨false, (R.M j).L.set a (rotS ((R.M j).L.getD a zero128) b c), (R.M j).V⟩ := by
    unfold roM
    rw [if_pos hr]; simp
  have e2 : (R.M j).L.getD a zero128 = secS 3 j a p := by
    rw [← ht, hM]; unfold topS; rw [hV]; rfl
  refine h.up hj _ (by rw [e1]; simp) (sr_shut (s := rotS (secS 3 j a p) b c) ?_ (rot_shut (i := 3) hm hb (by omega) (by omega)))
  rw [upR_eq hj]
  refine holds_of h.off ⟨by omega, by omega⟩ ?_ ?_ ?_
  · rw [Int.toNat_natCast]; show (upd R.M j (roM (R.M j) (a : Int) (b : Int) (c : Int)) j).fd = false; rw [upd_same, e1]
  · rw [Int.toNat_natCast]; show a < (upd R.M j (roM (R.M j) (a : Int) (b : Int) (c : Int)) j).L.length; rw [upd_same, e1]; simp; omega
  · rw [Int.toNat_natCast]; show lastOf ((upd R.M j (roM (R.M j) (a : Int) (b : Int) (c : Int)) j).V (a : Int)) ((upd R.M j (roM (R.M j) (a : Int) (b : Int) (c : Int)) j).L.getD a zero128) = _
    rw [upd_same, e1]
    show lastOf ((R.M j).V (a : Int)) (((R.M j).L.set a (rotS ((R.M j).L.getD a zero128) b c)).getD a zero128) = _
    rw [hM, hV, lastOf_nil, ← hM, List.getD_eq_getElem?_getD, List.getElem?_set_self (by omega), Option.getD_some, e2]
def goneL (g : List Bool) (n : Nat) : List Int := (allL n).filter fun x => g.getD x.toNat false
theorem allL_succ (n : Nat) : allL (n + 1) = allL n ++ [(n : Int)] := by simp [allL, List.range_succ]
theorem goneL_succ (g : List Bool) (n : Nat) : goneL g (n + 1) = if g.getD n false = true then goneL g n ++ [(n : Int)] else goneL g n := by
  unfold goneL
  rw [allL_succ, List.filter_append]
  by_cases e : g.getD n false = true
  · rw [if_pos e, List.filter_cons_of_pos (by simpa using e)]; rfl
  · rw [if_neg e, List.filter_cons_of_neg (by simpa using e)]; simp
theorem goneL_len : ∀ (g : List Bool) (n : Nat), (goneL g n).length = (g.take n).count true
  | g, 0 => by simp [goneL, allL]
  | g, n + 1 => by
    rw [goneL_succ, List.take_add_one, List.count_append]
    have ih := goneL_len g n
    cases e : g[n]? with
    | none => simp [List.getD_eq_getElem?_getD, e, ih]
    | some b => cases b <;> simp [List.getD_eq_getElem?_getD, e, ih]
theorem left_len (g : List Bool) (n : Nat) : ((allL n).filter fun x => !g.getD x.toNat false).length + (goneL g n).length = n := by
  have h := List.length_eq_countP_add_countP (fun x : Int => g.getD x.toNat false) (l := allL n)
  rw [allL_len'] at h
  unfold goneL
  rw [← List.countP_eq_length_filter, ← List.countP_eq_length_filter]
  have e : (fun x : Int => decide ¬ (g.getD x.toNat false = true)) = fun x : Int => !g.getD x.toNat false := funext fun x => by cases g.getD x.toNat false <;> rfl
  rw [e] at h
  omega
theorem back_read (h : Spoilt n sec a R0 R gone) (hg : gR (k : Int) (m : Int) B = true) (hn : n = k + m) (hs : gSectors (k : Int) (m : Int) B = (sec : Int)) (hN0 : 0 ≤ N) (hN1 : N < gStripes (k : Int) (m : Int) B) (hga : gSector (k : Int) (m : Int) B N = (a : Int)) (hd : dataB (k : Int) data = true) (hal : ∀ j, j < n → (R0.M j).fd = false) (ht : ∀ j, j < n → topS R0 j a = secS 3 j a (wordF k m B N data (j : Int))) :
    stR n R 3 (k : Int) (m : Int) B (allL n) N = if gone.count true ≤ m then (data, goneL gone n, 0) else ([], goneL gone n, 130) := by
  have hk := k_cases hg
  obtain ⟨a', ha1, ha2, ha3, _⟩ := sec_le hg hN0 hN1 hs
  obtain rfl : a' = a := by omega
  have hall : ∀ x ∈ allL n, 0 ≤ x ∧ x < (n : Int) := fun x hx => allL_mem.1 hx
  have hA := allow_sz (R := R) (l := allL n) (id := 3) (h.l 0 (by omega)) hg hn hs (by decide) hN0 hN1 hall allL_nodup
  rw [stR_by hA h.off hd (fun x => !gone.getD x.toNat false) (fun x hx e => by
    obtain ⟨j, rfl⟩ := Int.eq_ofNat_of_zero_le (hall x hx).1
    have hj : j < n := by have := (hall _ hx).2; omega
    rw [Int.toNat_natCast] at e
    have e' : gone.getD j false = false := by simpa using e
    have hM := h.ok j hj e'
    rw [hga]
    refine sr_sealed (i := 3) (by omega) (by rw [Int.toNat_natCast]; exact made_word hg hn hd (by decide) ha2 hA hj hx) (word_size hg hn hd hA hx) ?_
    rw [Int.toNat_natCast]
    have ht' := ht j hj
    unfold topS at ht'
    exact holds_of h.off ⟨by omega, by omega⟩ (by rw [Int.toNat_natCast, hM]; exact hal j hj) (by rw [Int.toNat_natCast, h.l j hj]; exact ha3) (by rw [Int.toNat_natCast, hM]; exact ht')) (fun x hx e => by
    obtain ⟨j, rfl⟩ := Int.eq_ofNat_of_zero_le (hall x hx).1
    have hj : j < n := by have := (hall _ hx).2; omega
    rw [Int.toNat_natCast] at e
    rw [hga]
    exact h.bad j hj (by simpa using e))]
  have hL := left_len gone n
  have hG := goneL_len gone n
  rw [List.take_of_length_le (Nat.le_of_eq h.ln)] at hG
  have e2 : (allL n).filter (fun x => !(fun x : Int => !gone.getD x.toNat false) x) = goneL gone n := by
    unfold goneL
    exact List.filter_congr fun x _ => by simp
  rw [e2]
  by_cases z : gone.count true ≤ m
  · rw [if_pos z, if_pos (by omega)]
  · rw [if_neg z, if_neg (by omega)]
theorem back_start {d : List ByteArray} (hg : gR (k : Int) (m : Int) B = true) (hn : n = k + m) (hs : gSectors (k : Int) (m : Int) B = (sec : Int)) (hN0 : 0 ≤ N) (hN1 : N < gStripes (k : Int) (m : Int) B) (hga : gSector (k : Int) (m : Int) B N = (a : Int)) (hd : dataB (k : Int) d = true) :
    ∃ R1 R2, stW n (R00 sec) 3 (k : Int) (m : Int) B (allL n) N d = (R1, [], 0) ∧ stF n R1 (allL n) = (R2, [], 0) ∧ Spoilt n sec a R2 R2 (List.replicate n false) ∧ a < sec ∧ ∀ j, j < n → (R2.M j).fd = false ∧ (R2.M j).V (a : Int) = [] ∧ topS R2 j a = secS 3 j a (wordF k m B N d (j : Int)) ∧ Made 3 j a (wordF k m B N d (j : Int)) := by
  have hk := k_cases hg
  obtain ⟨a', ha1, ha2, ha3, _⟩ := sec_le hg hN0 hN1 hs
  obtain rfl : a' = a := by omega
  have h0 : Hale n sec (R00 sec) := hale_00 (by omega) (by omega)
  have hall : ∀ x ∈ allL n, 0 ≤ x ∧ x < (n : Int) := fun x hx => allL_mem.1 hx
  have al0 := allow_sz (l := allL n) (id := ((3 : Nat) : Int)) h0.sz hg hn hs (by decide) hN0 hN1 hall allL_nodup
  have h1 : Hale n sec (RW 3 a' (wordF k m B N d) (allL n) (R00 sec)) := hale_RW h0 _
  have h2 : Hale n sec (RF (allL n) (RW 3 a' (wordF k m B N d) (allL n) (R00 sec))) := hale_RF h1
  have mem : ∀ j, j < n → (j : Int) ∈ allL n := fun j hj => allL_mem.2 (by omega)
  have md : ∀ j, j < n → Made 3 j a' (wordF k m B N d (j : Int)) := fun j hj => made_word hg hn hd (by decide) ha2 al0 hj (mem j hj)
  refine ⟨_, _, stW_hale (i := 3) h0 hn al0 hd ha1, stF_hale h1 hall allL_nodup, ⟨h2.off, by simp, fun _ _ _ => rfl, fun j hj e => ?_, h2.l⟩, ha3, fun j hj => ⟨h2.al j hj, rf_empty h1 hj (mem j hj) _, ?_, md j hj⟩⟩
  · rw [List.getD_eq_getElem?_getD, List.getElem?_replicate_of_lt hj] at e; simp at e
  · rw [top_RF h1 hj ha3, top_RW h0 _ hj ha3 (fun _ => md j hj), if_pos ⟨mem j hj, rfl⟩]
theorem rw_parts (f : Int → ByteArray) {l1 l2 : List Int} (hl : ∀ j : Nat, ((j : Int) ∈ l1 ∨ (j : Int) ∈ l2) ↔ (j : Int) ∈ l) (hx : ∀ j : Nat, (j : Int) ∈ l1 → (j : Int) ∉ l2) (hln : l1.length + l2.length = l.length) : RW i a f l2 (RW i a f l1 R) = RW i a f l R := by
  unfold RW
  have e1 : wrTo i a f l2 (wrTo i a f l1 R.M) = wrTo i a f l R.M := funext fun j => by
    unfold wrTo
    by_cases h1 : (j : Int) ∈ l1
    · rw [if_neg (hx j h1), if_pos h1, if_pos ((hl j).1 (.inl h1))]
    · by_cases h2 : (j : Int) ∈ l2
      · rw [if_pos h2, if_neg h1, if_pos ((hl j).1 (.inr h2))]
      · rw [if_neg h2, if_neg h1, if_neg fun z => ((hl j).2 z).elim h1 h2]
  have e2 : R.acts + (l1.length : Int) + (l2.length : Int) = R.acts + (l.length : Int) := by omega
  simp only [e1, e2]
end
end Go.Proofs.YtjgafpkpoppcbaaGreatDoor
