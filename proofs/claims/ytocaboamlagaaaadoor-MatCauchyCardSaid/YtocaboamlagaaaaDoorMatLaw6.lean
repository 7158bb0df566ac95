/- mat's law: whatever rows and as many places of a Cauchy matrix have an inverse. -/
import Derived.Test.YtocaboamlagaaaaDoorMatTakes
import Derived.WalkLawsBesides
namespace Go.Proofs.YtocaboamlagaaaaDoor
open Go.RowKit
set_option linter.unusedVariables false
set_option linter.unusedSimpArgs false

/-- The part of a Cauchy matrix of m rows in rows r and places c. -/
def partEl (m : Nat) (r c : List Nat) (i j : Nat) : UInt8 := cyEl m (r.getD i 0) (c.getD j 0)
def toF (n : Nat) : Mx.F := if h : n < 256 then Mx.F.mk n h else 0
theorem toF_v {n : Nat} (h : n < 256) : (toF n).v = n := by rw [toF, dif_pos h, Mx.v_mk]
theorem toF_add {a b : Nat} (ha : a < 256) (hb : b < 256) : toF a + toF b = toF (a ^^^ b) := by
  apply Mx.F.ext
  rw [Mx.v_add, toF_v ha, toF_v hb, toF_v (Gf.xor_lt ha hb)]
theorem toF_ne {a b : Nat} (ha : a < 256) (hb : b < 256) (h : a ≠ b) : toF a ≠ toF b := fun e => h (by rw [← toF_v ha, ← toF_v hb, e])
theorem getD_lt {l : List Nat} {n i : Nat} (h : ∀ x ∈ l, x < n) (hi : i < l.length) : l.getD i 0 < n := by
  rw [List.getD_eq_getElem?_getD, List.getElem?_eq_getElem hi]; exact h _ (List.getElem_mem hi)
theorem getD_ne {l : List Nat} {i j : Nat} (h : l.Nodup) (hi : i < l.length) (hj : j < l.length) (hne : i ≠ j) : l.getD i 0 ≠ l.getD j 0 := by
  rw [List.getD_eq_getElem?_getD, List.getD_eq_getElem?_getD, List.getElem?_eq_getElem hi, List.getElem?_eq_getElem hj]
  intro e
  exact hne ((List.getElem_inj h).1 e)
theorem nodup_le : ∀ (n : Nat) (l : List Nat), l.Nodup → (∀ x ∈ l, x < n) → l.length ≤ n
  | 0, l, _, hb => by
    cases l with
    | nil => simp
    | cons a t => have := hb a (by simp); omega
  | n + 1, l, h, hb => by
    by_cases hm : n ∈ l
    · have h1 := nodup_le n (l.erase n) (h.erase n) (fun x hx => by
        have hx1 := List.mem_of_mem_erase hx
        have := hb x hx1
        have hne : x ≠ n := by
          intro e; subst e
          exact (List.Nodup.not_mem_erase h) hx
        omega)
      rw [List.length_erase_of_mem hm] at h1
      have : 0 < l.length := List.length_pos_of_mem hm
      omega
    · have := nodup_le n l h (fun x hx => by
        have := hb x hx
        have hne : x ≠ n := by intro e; subst e; exact hm hx
        omega)
      omega
theorem part_inv {k m n : Nat} {r c : List Nat} (hk : k ≤ 16) (hm : m ≤ 16) (hn : 1 ≤ n) (hn2 : n ≤ 16) (hr : n ≤ r.length) (hc : n ≤ c.length) (nr : r.Nodup) (nc : c.Nodup) (br : ∀ x ∈ r, x < m) (bc : ∀ x ∈ c, x < k) : invE (mkM (partEl m r c) n n) = 0 := by
  rcases inv_cases (mkM_rect (partEl m r c) n n) hn hn2 with ⟨e, _⟩ | ⟨_, _, v, q, hq, hv1, hv2⟩
  · exact e
  · exfalso
    have lr : ∀ i, i < n → r.getD i 0 < m := fun i hi => getD_lt br (by omega)
    have lc : ∀ i, i < n → c.getD i 0 < k := fun i hi => getD_lt bc (by omega)
    have := Mx.cauchy_kernel n (fun i => toF (r.getD i 0)) (fun j => toF (m + c.getD j 0)) v
      (fun i j hi hj hne => toF_ne (by have := lr i hi; omega) (by have := lr j hj; omega) (getD_ne nr (by omega) (by omega) hne))
      (fun i j hi hj hne => toF_ne (by have := lc i hi; omega) (by have := lc j hj; omega) (by have := getD_ne nc (show i < c.length by omega) (show j < c.length by omega) hne; omega))
      (fun i j hi hj => by
        have h1 := lr i hi
        have h2 := lc j hj
        rw [toF_add (by omega) (by omega)]
        intro e
        have := congrArg Mx.F.v e
        rw [toF_v (Gf.xor_lt (by omega) (by omega)), Mx.v_zero] at this
        exact xor_pos' (a := r.getD i 0) (b := m + c.getD j 0) (by omega) this)
      (fun i hi => by
        rw [← hv2 i hi]
        refine Mx.S_congr fun j hj => ?_
        rw [Mx.mul_comm]
        congr 1
        apply Mx.F.ext
        have h1 := lr i hi
        have h2 := lc j hj
        rw [mkM_el _ hi hj, partEl, cyEl_toNat, Mx.v_inv, toF_add (by omega) (by omega), toF_v (Gf.xor_lt (by omega) (by omega))]) q hq
    rw [hv1] at this
    exact Mx.one_ne this
theorem line_snoc (f : Nat → UInt8) (j : Nat) (s : ByteArray) (c : Nat) (hc : c < s.size) (h : f j = s.data[c]?.getD 0) : lineOf ((List.range j).map f) ++ s.extract c (c + 1) = lineOf ((List.range (j + 1)).map f) := by
  apply ByteArray.ext
  rw [ByteArray.data_append, ByteArray.data_extract]
  apply Array.ext'
  rw [Array.toList_append, Array.toList_extract, lineOf, lineOf, List.range_succ, List.map_append]
  simp only [List.map_cons, List.map_nil, h]
  congr 1
  have hc' : c < s.data.toList.length := by simpa using hc
  rw [List.extract_eq_take_drop, show c + 1 - c = 1 by omega, List.drop_eq_getElem_cons hc']
  simp [Array.getElem?_eq_getElem (show c < s.data.size from hc)]
set_option maxRecDepth 100000 in
set_option maxHeartbeats 4000000 in
theorem cauchy_walk (k0 m0 : Int) (vr vc : Value) (xs ys : List Int) (w : World) (ht : Tabs w) (h1 : -9223372036854775808 ≤ k0) (h2 : k0 ≤ 9223372036854775807) (h3 : -9223372036854775808 ≤ m0) (h4 : m0 ≤ 9223372036854775807)
    (hX : Reads w vr (iv xs)) (hY : Reads w vc (iv ys)) (cX : capOk vr) (cY : capOk vc) (lX : xs.length ≤ 140737488355328) (lY : ys.length ≤ 140737488355328)
    (bX : ∀ i, i < xs.length → -9223372036854775808 ≤ xs.getD i 0 ∧ xs.getD i 0 ≤ 9223372036854775807) (bY : ∀ i, i < ys.length → -9223372036854775808 ≤ ys.getD i 0 ∧ ys.getD i 0 ≤ 9223372036854775807) :
    Calls Tryd.prog 8 #[.int .i64 k0, .int .i64 m0, vr, vc] w (Says w (.bool true)) := by
  obtain ⟨i0, hi, hz0, hz1, hz2⟩ := info_parts Tryd.infoS
  obtain ⟨i1, hi1, hy0, hy1, hy2⟩ := info_parts Tryd.infoI
  obtain ⟨p, hp, hpick⟩ := pick_nat k0 8 h1 h2 (by decide) (by decide)
  obtain ⟨p2, hp2, hpick2⟩ := pick_nat m0 8 h3 h4 (by decide) (by decide)
  obtain ⟨k, hk⟩ : ∃ N : Nat, N = 1 + p := ⟨_, rfl⟩
  have hk1 : 1 + (p : Int) = (k : Int) := by omega
  obtain ⟨m, hm⟩ : ∃ N : Nat, N = 1 + p2 := ⟨_, rfl⟩
  have hm1 : 1 + (p2 : Int) = (m : Int) := by omega
  have k1 : 1 ≤ k := by omega
  have k2 : k ≤ 8 := by omega
  have m1 : 1 ≤ m := by omega
  have m2 : m ≤ 8 := by omega
  clear hk hm
  have hcy := fun W hW => cauchy_any (k : Int) (m : Int) W hW
  have hfk : fitsB (k : Int) = true := by simp [fitsB]; omega
  have hfm : fitsB (m : Int) = true := by simp [fitsB]; omega
  rw [cyL, cyE, hfk, hfm, show ((m : Int)).toNat = m by omega, show ((k : Int)).toNat = k by omega] at hcy
  simp only [Bool.and_self, if_true] at hcy
  have rA := mkM_rect (cyEl m) m k
  have eA := fun i j hi hj => mkM_el (cyEl m) (m := m) (n := k) (i := i) (j := j) hi hj
  have lA := Lib.hid rA.l
  obtain ⟨X, hXX⟩ : ∃ X, X = min xs.length 50 := ⟨_, rfl⟩
  obtain ⟨Y, hYY⟩ : ∃ Y, Y = min ys.length 50 := ⟨_, rfl⟩
  have hX50 : X ≤ 50 ∧ X ≤ xs.length := by omega
  have hY50 : Y ≤ 50 ∧ Y ≤ ys.length := by omega
  obtain ⟨vr2, slr, rr2⟩ := hX.to_run (P := Tryd.prog) Tryd.underlying39 hi1 hy1 cX (m := X) (by rw [iv_length]; omega)
  obtain ⟨vc2, slc, rc2⟩ := hY.to_run (P := Tryd.prog) Tryd.underlying39 hi1 hy1 cY (m := Y) (by rw [iv_length]; omega)
  rw [show (iv xs).take X = iv (xs.take X) by simp [iv]] at rr2
  rw [show (iv ys).take Y = iv (ys.take Y) by simp [iv]] at rc2
  have hlX := fun W => hX.len_run (P := Tryd.prog) Tryd.underlying39 3 W
  have hlY := fun W => hY.len_run (P := Tryd.prog) Tryd.underlying39 3 W
  rw [iv_length] at hlX hlY
  have htk1 := fun W hW => takes_any vr2 (xs.take X) m W hW (fun i hi => by
    rw [List.length_take] at hi
    rw [List.getD_eq_getElem?_getD, List.getElem?_take, if_pos (by omega), ← List.getD_eq_getElem?_getD]; exact bX i (by omega)) (by rw [List.length_take]; omega) m1 (by omega)
  have htk2 := fun W hW => takes_any vc2 (ys.take Y) k W hW (fun i hi => by
    rw [List.length_take] at hi
    rw [List.getD_eq_getElem?_getD, List.getElem?_take, if_pos (by omega), ← List.getD_eq_getElem?_getD]; exact bY i (by omega)) (by rw [List.length_take]; omega) k1 (by omega)
  have hmnX : ∀ W, (Builtin.min_ #[3, 3] 3 #[.int .i64 (xs.length : Int), .int .i64 50]).run Tryd.prog W = .ok (.int .i64 (X : Int)) W := fun W => by
    have e : (if (50 : Int) < (xs.length : Int) then (50 : Int) else (xs.length : Int)) = (X : Int) := by split <;> omega
    simp [Builtin.min_, Builtin.min2, e]
  have hmnY : ∀ W, (Builtin.min_ #[3, 3] 3 #[.int .i64 (ys.length : Int), .int .i64 50]).run Tryd.prog W = .ok (.int .i64 (Y : Int)) W := fun W => by
    have e : (if (50 : Int) < (ys.length : Int) then (50 : Int) else (ys.length : Int)) = (Y : Int) := by split <;> omega
    simp [Builtin.min_, Builtin.min2, e]
  clear hXX hYY
  clear bX bY rA hfk hfm
  go_enter Tryd.func8, Tryd.ntmps8
  go_wp2_with (fail)
  refine (awake_any _ ht).mono ?_
  rintro e w1 ⟨rfl, b1⟩
  have t1 := ht.below b1 ht.two
  go_wp2_with (fail)
  refine (hpick _).mono ?_
  rintro e wq ⟨rfl, rfl⟩
  go_wp2_with (fail)
  refine (hpick2 _).mono ?_
  rintro e wq ⟨rfl, rfl⟩
  go_wp2_with (fail)
  have rr2 := rr2.below b1
  have rc2 := rc2.below b1
  refine (hcy _ t1).mono ?_
  rintro e w2 ⟨v2, rfl, o2, b2⟩
  have t2 := t1.below b2 t1.two
  have r2_X := rr2.below b2
  have r2_Y := rc2.below b2
  have r2_A := o2.reads
  have nA := fun W => (r2_A).len_run (P := Tryd.prog) Tryd.underlying22 3 W
  rw [List.length_map, lA.out] at nA
  go_wp2_with (fail)
  refine (htk1 _ r2_X).mono ?_
  rintro e w3 ⟨v3, r, rfl, o3, nr, br, lr, b3⟩
  have t3 := t2.below b3 t2.two
  have r3_Y := r2_Y.below b3
  have r3_A := r2_A.below b3
  have nr' := Lib.hid nr
  have br' := Lib.hid br
  clear nr br
  go_wp2_with (fail)
  refine (htk2 _ r3_Y).mono ?_
  rintro e w4 ⟨v4, c, rfl, o4, nc, bc, lc, b4⟩
  have t4 := t3.below b4 t3.two
  have r4_A := r3_A.below b4
  have o3' := o3.after b4
  have nc' := Lib.hid nc
  have bc' := Lib.hid bc
  clear nc bc
  have hB4 : Below w.heap.size w w4 := below_c (below_c (below_c b1 b2) b3) b4
  have l3 := fun W => (o3'.reads).len_run (P := Tryd.prog) Tryd.underlying39 3 W
  have l4 := fun W => (o4.reads).len_run (P := Tryd.prog) Tryd.underlying39 3 W
  rw [nv_length] at l3 l4
  obtain ⟨n, hn⟩ : ∃ n, n = min r.length c.length := ⟨_, rfl⟩
  have hmn : ∀ W, (Builtin.min_ #[3, 3] 3 #[.int .i64 (r.length : Int), .int .i64 (c.length : Int)]).run Tryd.prog W = .ok (.int .i64 (n : Int)) W := fun W => by
    have e : (if (c.length : Int) < (r.length : Int) then (c.length : Int) else (r.length : Int)) = (n : Int) := by split <;> omega
    simp only [Builtin.min_, Builtin.min2, List.foldlM, e]
    rfl
  have hnr : n ≤ r.length := by omega
  have hnc : n ≤ c.length := by omega
  clear hn
  by_cases h0 : n = 0
  · have e0 : ((n : Int) == 0) = true := by rw [beq_iff_eq]; omega
    clear h0
    go_wp2_with (fail)
    go_ret
    exact ⟨rfl, hB4⟩
  · have e0 : ((n : Int) == 0) = false := by rw [beq_eq_false_iff_ne]; omega
    have hn1 : 1 ≤ n := by omega
    have hr8 : n ≤ 16 := by
      -- as many things below 8 as n are not more than 16: each once
      have := nodup_le m r nr'.out br'.out
      omega
    obtain ⟨gr, capr, hvr, hgr1, hgr2⟩ := o3'.form (by rw [nv_length]; omega)
    obtain ⟨gc, capc, hvc, hgc1, hgc2⟩ := o4.form (by rw [nv_length]; omega)
    rw [nv_length] at hvr hvc
    subst hvr
    subst hvc
    rcases r4_A.srow with ⟨_, eA0⟩ | ⟨bA, oA, capA, rfl, hSA⟩
    · have := lA.out; rw [eA0] at this; simp at this; omega
    clear h0
    have rI := Lib.hid (part_inv (show k ≤ 16 by omega) (show m ≤ 16 by omega) hn1 hr8 hnr hnc nr'.out nc'.out br'.out bc'.out)
    have fb := (mkM_rect (partEl m r c) n n).fits (by omega) (by omega)
    have hinv := fun W hW v hv => inverse_any v (mkM (partEl m r c) n n) W hW hv fb
    rw [rI.out] at hinv
    have eA' := Lib.hid eA
    clear eA hmnX hmnY hlX hlY slr slc htk1 htk2 hcy nA hpick hpick2
    go_wp2_with (fail)
    clear l3 l4 hmn
    go_loopw [16, 17, 18, 19] (fun u i _ _ wr => ∃ q : Nat, q ≤ n ∧ i = .int .i64 (q : Int) ∧ Own wr w4.heap.size 9 u (tx (firstL (fun i => lineOf ((List.range n).map (partEl m r c i))) q)) ∧ Below w4.heap.size w4 wr) (fun _ i _ _ _ => n - (intOf i).toNat)
    case atStart => exact ⟨0, by omega, rfl, Own.nil _ _ _, Below.refl _ _⟩
    case round =>
      obtain ⟨q, hq, rfl, hown, hbel⟩ := hrel
      obtain ⟨u, rfl⟩ : ∃ v, v = u16 := ⟨_, rfl⟩
      by_cases hlq : q < n
      · have e1 : (q : Int) < (n : Int) := by omega
        have hnx := Lib.hid (firstL_succ (fun i => lineOf ((List.range n).map (partEl m r c i))) q)
        have hfl := firstL_length (fun i => lineOf ((List.range n).map (partEl m r c i))) q
        have hrq := getD_lt br'.out (show q < r.length by omega)
        have cr := fun W (hW : Below w4.heap.size w4 W) => (o3'.after hW).cell (i := q) (by rw [nv_length]; omega)
        rw [nv_getD r (by omega)] at cr
        have cA := fun W (hW : Below w4.heap.size w4 W) => (hSA.below hW).cell (r.getD q 0) (by have := lA.out; omega)
        have sA : ((mkM (cyEl m) m k).getD (r.getD q 0) ⟨#[]⟩).size = k := mkM_size _ hrq
        have hel : Hid (∀ j, j < n → partEl m r c q j = ((mkM (cyEl m) m k).getD (r.getD q 0) ⟨#[]⟩).data[c.getD j 0]?.getD 0) := Lib.hid (fun j hj => by
          apply UInt8.toNat_inj.1
          exact (eA'.out _ _ hrq (getD_lt bc'.out (show j < c.length by omega))).symm)
        have e2 : (q : Int) < (r.length : Int) := by omega
        have e3 : ((r.getD q 0 : Nat) : Int) < ((mkM (cyEl m) m k).length : Int) := by have := lA.out; omega
        generalize partEl m r c q = X at hel hnx
        generalize (mkM (cyEl m) m k).getD (r.getD q 0) ⟨#[]⟩ = Ar at *
        generalize r.getD q 0 = rq at *
        obtain ⟨wo, rfl⟩ : ∃ wo : World, wo = wr := ⟨_, rfl⟩
        have sA' := Lib.hid sA
        clear sA
        go_wp2_with (fail)
        go_loopw [18, 19] (fun s j wr => ∃ z : Nat, z ≤ n ∧ j = .int .i64 (z : Int) ∧ s = .string (lineOf ((List.range z).map X)) ∧ Below wo.heap.size wo wr) (fun _ j _ => n - (intOf j).toNat)
        case atStart => exact ⟨0, by omega, rfl, rfl, Below.refl _ _⟩
        case round =>
          obtain ⟨z, hz, rfl, rfl, hbz⟩ := hrel
          by_cases hlz : z < n
          · have d1 : (z : Int) < (n : Int) := by omega
            have d2 : (z : Int) < (c.length : Int) := by omega
            have hbw : Below w4.heap.size w4 wr := hbel.trans (hbz.mono hbel.size)
            have cr' := cr wr hbw
            have cA' := cA wr hbw
            have cc := (o4.after hbw).cell (i := z) (by rw [nv_length]; omega)
            rw [nv_getD c (by omega)] at cc
            have hcz := getD_lt bc'.out (show z < c.length by omega)
            have hls := line_snoc X z Ar (c.getD z 0) (by rw [sA'.out]; exact hcz) (hel.out z hlz)
            have hsz : (lineOf ((List.range z).map X)).size = z := by show (lineOf _).data.size = z; simp [lineOf]
            have hsl := fun W => slice_run (P := Tryd.prog) Tryd.underlying9 Ar ((c.getD z 0 : Nat) : Int) (((c.getD z 0 : Nat) : Int) + 1) (c.getD z 0) (c.getD z 0 + 1) rfl (by omega) (by omega) (by rw [sA'.out]; omega) W
            have hadd : ¬ 9223372036854775807 < (lineOf ((List.range z).map X)).size + (Ar.extract (c.getD z 0) (c.getD z 0 + 1)).size := by rw [hsz, ByteArray.size_extract, sA'.out]; omega
            have d3 : ((c.getD z 0 : Nat) : Int) ≤ 100 := by omega
            have hls' := Lib.hid hls
            clear hls hsz cr cA
            generalize c.getD z 0 = cz at *
            generalize lineOf ((List.range z).map X) = row at *
            go_wp2
            go_quiet (fail)
            go_wp2
            go_roundw
            case rel => exact ⟨z + 1, by omega, by go_num, by rw [← hls'.out], belowN hbz _⟩
            case measure => simp [intOf]; omega
          · have e : z = n := by omega
            subst e
            have hown3 := hown.after hbz
            have hb3 : Below w4.heap.size w4 wr := hbel.trans (hbz.mono hbel.size)
            obtain ⟨v', w', hap, hown4, hb4⟩ := Own.push (P := Tryd.prog) (T := 22) Tryd.underlying22 hi hz0 hz1 hz2 rfl hown3 (.string (lineOf ((List.range z).map X))) rfl hb3.size (by rw [List.length_map, hfl]; omega) (by rw [List.length_map, hfl]; omega)
            clear cr cA
            go_wp2_with (at_builtin; refine wpList_append_run hap _ _ rfl rfl rfl rfl rfl ?_)
            go_roundw
            case rel => exact ⟨q + 1, by omega, by go_num, by rw [hnx.out]; exact hown4, hb3.trans hb4⟩
            case measure => simp [intOf]; omega
      · have e : q = n := by omega
        subst e
        have t9 := t4.below hbel t4.two
        go_wp2_with (fail)
        refine (hinv _ t9 _ hown.reads).mono ?_
        rintro e w9 ⟨v9, rfl, o9, b9⟩
        go_wp2_with (fail)
        go_ret
        exact ⟨rfl, below_c (below_c hB4 hbel) b9⟩
end Go.Proofs.YtocaboamlagaaaaDoor
