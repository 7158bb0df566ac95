/- rs: Encode, Update, and what Decode leans on. -/
import Derived.Test.YtcmnojflllcdfaaDoorRsBase
import Derived.Test.YtcmnojflllcdfaaDoorMatLaw6
namespace Go.Proofs.YtcmnojflllcdfaaDoor
open Go.RowKit
set_option linter.unusedVariables false
set_option linter.unusedSimpArgs false

theorem alike_rect {l : List ByteArray} (h : alikeL l = true) : Rect l l.length (l.getD 0 ⟨#[]⟩).size := ⟨rfl, fun i hi => (alike_facts h i hi).1⟩
theorem alike_fits {l : List ByteArray} (h : alikeL l = true) (hn : l.length ≤ 1000) : Fits l := Fits.small hn fun i hi => by have := alike_facts h i hi; omega
def encB (data : List ByteArray) (m : Int) : Bool := fits8 (data.length : Int) && fits8 m && alikeL data
def encL (data : List ByteArray) (m : Int) : List ByteArray := if encB data m then mulL (mkM (cyEl m.toNat) m.toNat data.length) data else []
def encE (data : List ByteArray) (m : Int) : Int := if encB data m then 0 else 30
theorem enc_mul {data : List ByteArray} {k m L : Nat} (h : Rect data k L) (h1 : 1 ≤ k) (h2 : k ≤ 8) (h3 : 1 ≤ m) (h4 : m ≤ 8) (h5 : 1 ≤ L) (h6 : L ≤ 4096) : mulOk (mkM (cyEl m) m k) data = true :=
  mulOk_of (mkM_rect _ m k) h h3 (by omega) h1 (by omega) h5 h6
theorem encB_facts {data : List ByteArray} {m : Int} (h : encB data m = true) : 1 ≤ data.length ∧ data.length ≤ 8 ∧ 1 ≤ m ∧ m ≤ 8 ∧ alikeL data = true := by
  unfold encB at h
  simp only [Bool.and_eq_true, fits8, decide_eq_true_eq] at h
  obtain ⟨⟨h1, h2⟩, h3⟩ := h
  exact ⟨by omega, by omega, h2.1, h2.2, h3⟩
theorem enc_bad (w : World) (data : List ByteArray) (m : Int) (h : Hid (encB data m = false)) (W : World) (hb : Below w.heap.size w W) : GivesL w (encL data m) (encE data m) (.returned (.tuple #[.slice none 0 0, .int .i64 30])) W :=
  ⟨.slice none 0 0, by rw [encE, h.out]; rfl, by rw [encL, h.out]; exact Own.nil _ _ _, hb⟩
set_option maxRecDepth 100000 in
set_option maxHeartbeats 2000000 in
theorem encode_any (v : Value) (data : List ByteArray) (m : Int) (w : World) (ht : Tabs w) (hD : Reads w v (tx data)) (hF : Fits data) :
    Calls Tryd.prog 14 #[v, .int .i64 m] w (GivesL w (encL data m) (encE data m)) := by
  have hn := hF.n
  have hl := fun W => hD.len_run (P := Tryd.prog) Tryd.underlying22 3 W
  rw [List.length_map] at hl
  have c1 := fun W => rsfits_any (data.length : Int) W
  have c2 := fun W => rsfits_any m W
  have c3 := alike_any v data w hD hF
  cases h1 : fits8 (data.length : Int) with
  | false =>
    have hz : Hid (encB data m = false) := Lib.hid (by simp [encB, h1])
    rw [h1] at c1
    clear h1
    go_enter Tryd.func14, Tryd.ntmps14
    go_wp2_with (fail)
    refine (c1 _).mono ?_
    rintro e wq ⟨rfl, rfl⟩
    go_wp2_with (fail)
    go_ret2
    exact enc_bad w data m hz _ (Below.refl _ _)
  | true =>
    cases h2 : fits8 m with
    | false =>
      have hz : Hid (encB data m = false) := Lib.hid (by simp [encB, h2])
      rw [h1] at c1
      rw [h2] at c2
      clear h1 h2
      go_enter Tryd.func14, Tryd.ntmps14
      go_wp2_with (fail)
      refine (c1 _).mono ?_
      rintro e wq ⟨rfl, rfl⟩
      go_wp2_with (fail)
      refine (c2 _).mono ?_
      rintro e wq ⟨rfl, rfl⟩
      go_wp2_with (fail)
      go_ret2
      exact enc_bad w data m hz _ (Below.refl _ _)
    | true =>
      cases h3 : alikeL data with
      | false =>
        have hz : Hid (encB data m = false) := Lib.hid (by simp [encB, h3])
        rw [h1] at c1
        rw [h2] at c2
        rw [h3] at c3
        clear h1 h2 h3
        go_enter Tryd.func14, Tryd.ntmps14
        go_wp2_with (fail)
        refine (c1 _).mono ?_
        rintro e wq ⟨rfl, rfl⟩
        go_wp2_with (fail)
        refine (c2 _).mono ?_
        rintro e wq ⟨rfl, rfl⟩
        go_wp2_with (fail)
        refine c3.mono ?_
        rintro e wq ⟨rfl, rfl⟩
        go_wp2_with (fail)
        go_ret2
        exact enc_bad w data m hz _ (Below.refl _ _)
      | true =>
        have hz : Hid (encB data m = true) := Lib.hid (by simp [encB, h1, h2, h3])
        obtain ⟨k1, k2, k3, k4, _⟩ := encB_facts hz.out
        have hal := alike_facts h3
        have ok := enc_mul (m := m.toNat) (alike_rect h3) k1 k2 (by omega) (by omega) (hal 0 (by omega)).2.1 (hal 0 (by omega)).2.2
        rw [h1] at c1
        rw [h2] at c2
        rw [h3] at c3
        have c4 := cauchy_any (data.length : Int) m w ht
        have f1 : fitsB (data.length : Int) = true := by simp [fitsB]; omega
        have f2 : fitsB m = true := by simp [fitsB]; omega
        rw [cyL, cyE, f1, f2, show ((data.length : Int)).toNat = data.length by omega] at c4
        simp only [Bool.and_self, if_true] at c4
        have fc := (mkM_rect (cyEl m.toNat) m.toNat data.length).fits (by omega) (by omega)
        have c5 := fun W hW va vb ha hb => mxmul_any va vb (mkM (cyEl m.toNat) m.toNat data.length) data W hW ha hb fc hF
        rw [mulE, if_pos ok] at c5
        have hz1 : Hid (encL data m = mulL (mkM (cyEl m.toNat) m.toNat data.length) data) := Lib.hid (by rw [encL, if_pos hz.out])
        generalize mulL (mkM (cyEl m.toNat) m.toNat data.length) data = X at *
        generalize mkM (cyEl m.toNat) m.toNat data.length = C at *
        clear h1 h2 h3 hal f1 f2
        go_enter Tryd.func14, Tryd.ntmps14
        go_wp2_with (fail)
        refine (c1 _).mono ?_
        rintro e wq ⟨rfl, rfl⟩
        go_wp2_with (fail)
        refine (c2 _).mono ?_
        rintro e wq ⟨rfl, rfl⟩
        go_wp2_with (fail)
        refine c3.mono ?_
        rintro e wq ⟨rfl, rfl⟩
        go_wp2_with (fail)
        refine c4.mono ?_
        rintro e w1 ⟨v1, rfl, o1, b1⟩
        go_wp2_with (fail)
        refine (c5 _ (ht.below b1 ht.two) _ _ o1.reads (hD.below b1)).mono ?_
        rintro e w2 ⟨v2, rfl, o2, b2⟩
        go_wp2_with (fail)
        go_ret2
        exact ⟨v2, by rw [encE, if_pos hz.out]; rfl, by rw [hz1.out]; exact o2.mono b1.size, below_c b1 b2⟩
/-- Which are present. -/
def idxTo (h : List Bool) (k : Nat) : List Nat := (List.range k).filter fun i => h.getD i false
def idxL (h : List Bool) : List Nat := idxTo h h.length
theorem idxTo_succ (h : List Bool) (k : Nat) : idxTo h (k + 1) = if h.getD k false then idxTo h k ++ [k] else idxTo h k := by
  unfold idxTo
  rw [List.range_succ, List.filter_append]
  by_cases e : h.getD k false = true
  · rw [if_pos e, List.filter_cons_of_pos (p := fun i => h.getD i false) e, List.filter_nil]
  · rw [if_neg e, List.filter_cons_of_neg (p := fun i => h.getD i false) e, List.filter_nil, List.append_nil]
theorem idxTo_len (h : List Bool) (k : Nat) : (idxTo h k).length ≤ k := by
  have := List.length_filter_le (fun i => h.getD i false) (List.range k)
  simpa [idxTo] using this
def bv (l : List Bool) : List Value := l.map .bool
theorem bv_getD (l : List Bool) {i : Nat} (h : i < l.length) : (bv l).getD i .nilFunc = .bool (l.getD i false) := by
  simp [bv, List.getD_eq_getElem?_getD, h]
theorem bv_length (l : List Bool) : (bv l).length = l.length := by simp [bv]
/-- A list of one's own. -/
def GivesV (w : World) (E : TypeId) (xs : List Value) (e : Ending) (w' : World) : Prop := ∃ v, e = .returned v ∧ Own w' w.heap.size E v xs ∧ Below w.heap.size w w'
set_option maxRecDepth 100000 in
set_option maxHeartbeats 1000000 in
theorem indexes_any (v : Value) (h : List Bool) (w : World) (hR : Reads w v (bv h)) (hn : h.length ≤ 1000000) :
    Calls Tryd.prog 32 #[v] w (GivesV w 3 (nv (idxL h))) := by
  obtain ⟨i0, hi, hz0, hz1, hz2⟩ := info_parts Tryd.infoI
  have hl := fun W => hR.len_run (P := Tryd.prog) Tryd.underlying30 3 W
  rw [bv_length] at hl
  go_enter Tryd.func32, Tryd.ntmps32
  go_wp2_with (fail)
  go_loopw [3, 4, 5, 8] (fun u _ _ i wr => ∃ k : Nat, k ≤ h.length ∧ i = .int .i64 (k : Int) ∧ Own wr w.heap.size 3 u (nv (idxTo h k)) ∧ Below w.heap.size w wr) (fun _ _ _ i _ => h.length - (intOf i).toNat)
  case atStart => exact ⟨0, by omega, rfl, Own.nil _ _ _, Below.refl _ _⟩
  case round =>
    obtain ⟨k, hk, rfl, hown, hbel⟩ := hrel
    obtain ⟨u, rfl⟩ : ∃ v, v = u3 := ⟨_, rfl⟩
    by_cases hlt : k < h.length
    · have b1 : (k : Int) < (h.length : Int) := by omega
      rcases hR.below hbel with ⟨_, e⟩ | ⟨b, off, cap, rfl, hb, hc⟩
      · have := congrArg List.length e; rw [bv_length, List.length_nil] at this; omega
      have hck := hc k (by rw [bv_length]; exact hlt)
      rw [bv_getD h hlt] at hck
      have b2 : (k : Int) < ((bv h).length : Int) := by rw [bv_length]; exact b1
      have hs := idxTo_succ h k
      have hle := idxTo_len h k
      cases hb1 : h.getD k false with
      | true =>
        rw [hb1] at hs hck
        rw [if_pos rfl] at hs
        have hs' := Lib.hid hs
        obtain ⟨v', w', hap, hown4, hb4⟩ := Own.push (P := Tryd.prog) (T := 33) Tryd.underlying33 hi hz0 hz1 hz2 rfl hown (.int .i64 (k : Int)) rfl hbel.size (by rw [nv_length]; omega) (by rw [nv_length]; omega)
        clear hb1 hs hc
        go_wp2_with (at_builtin; refine wpList_append_run hap _ _ rfl rfl rfl rfl rfl ?_)
        go_roundw
        case rel => exact ⟨k + 1, by omega, by go_num, by rw [hs'.out, nv_snoc]; exact hown4, hbel.trans hb4⟩
        case measure => simp [intOf]; omega
      | false =>
        rw [hb1] at hs hck
        rw [if_neg (by decide)] at hs
        have hs' := Lib.hid hs
        clear hb1 hs hc
        go_wp2_with (fail)
        go_roundw
        case rel => exact ⟨k + 1, by omega, by go_num, by rw [hs'.out]; exact hown, hbel⟩
        case measure => simp [intOf]; omega
    · have e : k = h.length := by omega
      subst e
      go_wp2_with (fail)
      go_ret
      exact ⟨u, rfl, hown, hbel⟩
/-- Rows chosen by their places. -/
def chL (r : List Nat) (rows : List ByteArray) : List ByteArray := r.map fun i => rows.getD i ⟨#[]⟩
theorem chL_take_succ (r : List Nat) (rows : List ByteArray) {k : Nat} (h : k < r.length) : tx (chL (r.take (k + 1)) rows) = tx (chL (r.take k) rows) ++ [.string (rows.getD (r.getD k 0) ⟨#[]⟩)] := by
  rw [List.take_succ_eq_append_getElem h, List.getD_eq_getElem?_getD (l := r), List.getElem?_eq_getElem h]
  simp only [chL, tx, List.map_append, List.map_cons, List.map_nil, Option.getD_some]
set_option maxRecDepth 100000 in
set_option maxHeartbeats 1000000 in
theorem choose_any (v pv : Value) (a : Addr) (rows : List ByteArray) (r : List Nat) (w : World) (ha : w.cell? a = some pv) (hal : a.block < w.heap.size) (hP : Reads w pv (nv r)) (hR : Reads w v (tx rows)) (hr : ∀ x ∈ r, x < rows.length) (hl : r.length ≤ 1000) (hn : rows.length ≤ 1000) :
    Calls Tryd.prog 33 #[v, .pointer (some a)] w (GivesT w (chL r rows)) := by
  obtain ⟨i0, hi, hz0, hz1, hz2⟩ := info_parts Tryd.infoS
  have hl1 := fun W => hP.len_run (P := Tryd.prog) Tryd.underlying33 3 W
  rw [nv_length] at hl1
  have hr' := Lib.hid hr
  clear hr
  go_enter Tryd.func33, Tryd.ntmps33
  go_wp2_with (fail)
  go_loopw [4, 6, 9] (fun u _ i wr => ∃ k : Nat, k ≤ r.length ∧ i = .int .i64 (k : Int) ∧ Own wr w.heap.size 9 u (tx (chL (r.take k) rows)) ∧ Below w.heap.size w wr) (fun _ _ i _ => r.length - (intOf i).toNat)
  case atStart => exact ⟨0, by omega, rfl, Own.nil _ _ _, Below.refl _ _⟩
  case round =>
    obtain ⟨k, hk, rfl, hown, hbel⟩ := hrel
    obtain ⟨u, rfl⟩ : ∃ v, v = u4 := ⟨_, rfl⟩
    by_cases hlt : k < r.length
    · have b1 : (k : Int) < (r.length : Int) := by omega
      have hrk := getD_lt hr'.out hlt
      rcases hP.below hbel with ⟨_, e⟩ | ⟨bp, op, cp, rfl, hbp, hcp⟩
      · have := congrArg List.length e; rw [nv_length, List.length_nil] at this; omega
      rcases (hR.below hbel).srow with ⟨_, e⟩ | ⟨br, or_, cr, rfl, hSr⟩
      · rw [e] at hrk; simp at hrk
      have hck := hcp k (by rw [nv_length]; exact hlt)
      rw [nv_getD r hlt] at hck
      have hcr := hSr.cell (r.getD k 0) hrk
      have b2 : (k : Int) < ((nv r).length : Int) := by rw [nv_length]; exact b1
      have b3 : ((r.getD k 0 : Nat) : Int) < (rows.length : Int) := by omega
      have hnx := Lib.hid (chL_take_succ r rows hlt)
      have hfl : (tx (chL (r.take k) rows)).length = k := by simp [chL]; omega
      obtain ⟨v', w', hap, hown4, hb4⟩ := Own.push (P := Tryd.prog) (T := 22) Tryd.underlying22 hi hz0 hz1 hz2 rfl hown (.string (rows.getD (r.getD k 0) ⟨#[]⟩)) rfl hbel.size (by rw [hfl]; omega) (by rw [hfl]; omega)
      clear hcp hrk hfl
      generalize rows.getD (r.getD k 0) ⟨#[]⟩ = row at *
      generalize r.getD k 0 = rk at *
      go_wp2_with (at_builtin; refine wpList_append_run hap _ _ rfl rfl rfl rfl rfl ?_)
      go_roundw
      case rel => exact ⟨k + 1, by omega, by go_num, by rw [hnx.out]; exact hown4, hbel.trans hb4⟩
      case measure => simp [intOf]; omega
    · have e : k = r.length := by omega
      subst e
      go_wp2_with (fail)
      go_ret
      rw [List.take_length] at hown
      exact ⟨u, rfl, hown, hbel⟩
/-- The matrix that makes all shards. -/
def genL (k m : Nat) : List ByteArray := mkM idEl k k ++ mkM (cyEl m) m k
theorem genL_length (k m : Nat) : (genL k m).length = k + m := by simp [genL, mkM]
set_option maxRecDepth 100000 in
set_option maxHeartbeats 1000000 in
theorem generator_any (k m : Nat) (w : World) (ht : Tabs w) (k1 : 1 ≤ k) (k2 : k ≤ 8) (m1 : 1 ≤ m) (m2 : m ≤ 8) :
    Calls Tryd.prog 35 #[.int .i64 (k : Int), .int .i64 (m : Int)] w (GivesT w (genL k m)) := by
  obtain ⟨hid1, hid2⟩ := idL_nat k1 (show k ≤ 16 by omega)
  have hid := identity_any (k : Int) w
  rw [hid1, hid2] at hid
  have hcy := fun W hW => cauchy_any (k : Int) (m : Int) W hW
  have hfk : fitsB (k : Int) = true := by simp [fitsB]; omega
  have hfm : fitsB (m : Int) = true := by simp [fitsB]; omega
  rw [cyL, cyE, hfk, hfm, show ((m : Int)).toNat = m by omega, show ((k : Int)).toNat = k by omega] at hcy
  simp only [Bool.and_self, if_true] at hcy
  have la := mkM_length idEl k k
  have lb := mkM_length (cyEl m) m k
  rw [genL]
  generalize mkM idEl k k = a at *
  generalize mkM (cyEl m) m k = b at *
  clear hid1 hid2 hfk hfm
  have la' : 1 ≤ a.length ∧ a.length ≤ 100 := by omega
  have lb' : 1 ≤ b.length ∧ b.length ≤ 100 := by omega
  clear la lb
  go_enter Tryd.func35, Tryd.ntmps35
  go_wp2_with (fail)
  refine hid.mono ?_
  rintro e w1 ⟨v1, rfl, o1, b1⟩
  go_wp2_with (fail)
  refine (hcy _ (ht.below b1 ht.two)).mono ?_
  rintro e w2 ⟨v2, rfl, o2, b2⟩
  have r1 := o1.reads.below b2
  have r2 := o2.reads
  obtain ⟨g1, cap1, hv1, hg1, hg1'⟩ := o1.form (by rw [List.length_map]; omega)
  obtain ⟨g2, cap2, hv2, hg2, hg2'⟩ := o2.form (by rw [List.length_map]; omega)
  rw [List.length_map] at hv1 hv2
  subst hv1
  subst hv2
  have bA := (Below.refl w2.heap.size w2).alloc (Nat.le_refl _) (.cells #[.slice (some ⟨g1, 0, none⟩) a.length cap1, .slice (some ⟨g2, 0, none⟩) b.length cap2] 22)
  have hcc := concat_two _ _ a b w2.heap.size 2 (w2.alloc (.cells #[.slice (some ⟨g1, 0, none⟩) a.length cap1, .slice (some ⟨g2, 0, none⟩) b.length cap2] 22)) (by simp) (by rw [World.cell?_alloc_mark]; rfl) (by rw [World.cell?_alloc_mark]; rfl) (r1.below bA) (r2.below bA) la'.1 la'.2 lb'.2
  go_wp2_with (fail)
  refine hcc.mono ?_
  rintro e w3 ⟨v3, rfl, o3, b3⟩
  go_wp2_with (fail)
  go_ret
  exact ⟨v3, rfl, o3.mono (Nat.le_trans (below_c b1 b2).size (by simp)), below_c (below_c b1 b2) (bA.trans (b3.mono (by simp)))⟩
end Go.Proofs.YtcmnojflllcdfaaDoor
