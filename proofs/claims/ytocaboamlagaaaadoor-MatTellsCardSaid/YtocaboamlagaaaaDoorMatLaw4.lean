/- mat's law: a square whose rows hang on one another has no inverse. -/
import Derived.Test.YtocaboamlagaaaaDoorMatLaw3
namespace Go.Proofs.YtocaboamlagaaaaDoor
open Go.RowKit
set_option linter.unusedVariables false
set_option linter.unusedSimpArgs false

theorem singular_of {a : List ByteArray} {n c : Nat} (h : Rect a n n) (h1 : 1 ≤ n) (h2 : n ≤ 16) (u : Nat → Mx.F) (hc : c < n) (hu : u c ≠ 0) (hs : ∀ j, j < n → Mx.S n (fun k => u k * el a k j) = 0) : invE a = 21 ∧ invL a = [] := by
  rcases inv_cases h h1 h2 with ⟨_, _, _, k2⟩ | ⟨e1, e2, _⟩
  · exact absurd (Mx.no_cokernel k2 hs hc) hu
  · exact ⟨e1, e2⟩
theorem S_pick {n i : Nat} (h : i < n) (f : Nat → Mx.F) : Mx.S n (fun k => Mx.one i k * f k) = f i := by
  rw [Mx.S_one h (fun k _ hk => by rw [Mx.one_other (Ne.symm hk), Mx.zero_mul]), Mx.one_self, Mx.one_mul]
theorem set_rect {a : List ByteArray} {n i : Nat} (h : Rect a n n) (r : ByteArray) (hr : r.size = n) : Rect (a.set i r) n n := by
  refine ⟨by rw [List.length_set, h.l], fun k hk => ?_⟩
  rw [List.getD_eq_getElem?_getD, List.getElem?_set]
  by_cases e : i = k
  · subst e; rw [if_pos rfl, if_pos (by rw [h.l]; exact hk)]; exact hr
  · rw [if_neg e, ← List.getD_eq_getElem?_getD]; exact h.s k hk
theorem set_same {a : List ByteArray} {n i : Nat} (h : Rect a n n) (hi : i < n) (r : ByteArray) (j : Nat) : (el (a.set i r) i j).v = bt r j := by
  rw [el_v, List.getD_eq_getElem?_getD, List.getElem?_set, if_pos rfl, if_pos (by rw [h.l]; exact hi)]; rfl
theorem set_other {a : List ByteArray} {i k : Nat} (hne : i ≠ k) (r : ByteArray) (j : Nat) : el (a.set i r) k j = el a k j := by
  apply Mx.F.ext
  rw [el_v, List.getD_eq_getElem?_getD, List.getElem?_set, if_neg hne, ← List.getD_eq_getElem?_getD, el_v]
theorem sing_alike {a : List ByteArray} {n i j : Nat} (h : Rect a n n) (h1 : 1 ≤ n) (h2 : n ≤ 16) (hi : i < n) (hj : j < n) (hij : i ≠ j) : invE (a.set i (a.getD j ⟨#[]⟩)) = 21 ∧ invL (a.set i (a.getD j ⟨#[]⟩)) = [] := by
  refine singular_of (set_rect h _ (h.s j hj)) h1 h2 (fun k => Mx.one i k + Mx.one j k) hi (by rw [Mx.one_self, Mx.one_other (Ne.symm hij), Mx.add_zero]; exact Mx.one_ne) fun p hp => ?_
  rw [Mx.S_congr (fun k _ => Mx.add_mul _ _ _), Mx.S_add, S_pick hi, S_pick hj, set_other hij]
  rw [show el (a.set i (a.getD j ⟨#[]⟩)) i p = el a j p from Mx.F.ext (set_same h hi _ p), Mx.add_self]
theorem sing_nought {a : List ByteArray} {n i : Nat} (h : Rect a n n) (h1 : 1 ≤ n) (h2 : n ≤ 16) (hi : i < n) : invE (a.set i (zrow n)) = 21 ∧ invL (a.set i (zrow n)) = [] := by
  refine singular_of (set_rect h _ (zrow_size n)) h1 h2 (fun k => Mx.one i k) hi (by rw [Mx.one_self]; exact Mx.one_ne) fun p hp => ?_
  rw [S_pick hi]
  exact Mx.F.ext ((set_same h hi _ p).trans (bt_zrow n p))
def xorRow (x y : ByteArray) (p : Nat) : UInt8 := UInt8.ofNat (bt x p ^^^ bt y p)
theorem xorRow_toNat (x y : ByteArray) (p : Nat) : (xorRow x y p).toNat = bt x p ^^^ bt y p := by
  have := Gf.xor_lt (bt_lt x p) (bt_lt y p)
  rw [xorRow, UInt8.toNat_ofNat']; omega
theorem sing_sum {a : List ByteArray} {n i j k : Nat} (h : Rect a n n) (h1 : 1 ≤ n) (h2 : n ≤ 16) (hi : i < n) (hj : j < n) (hk : k < n) (hij : i ≠ j) (hik : i ≠ k) :
    invE (a.set i (lineOf ((List.range n).map (xorRow (a.getD j ⟨#[]⟩) (a.getD k ⟨#[]⟩))))) = 21 ∧ invL (a.set i (lineOf ((List.range n).map (xorRow (a.getD j ⟨#[]⟩) (a.getD k ⟨#[]⟩))))) = [] := by
  refine singular_of (set_rect h _ (by show (lineOf _).data.size = n; simp [lineOf])) h1 h2 (fun l => Mx.one i l + (Mx.one j l + Mx.one k l)) hi (by rw [Mx.one_self, Mx.one_other (Ne.symm hij), Mx.one_other (Ne.symm hik), Mx.add_zero, Mx.add_zero]; exact Mx.one_ne) fun p hp => ?_
  rw [Mx.S_congr (fun l _ => Mx.add_mul _ _ _), Mx.S_add, Mx.S_congr (fun l _ => Mx.add_mul (Mx.one j l) _ _), Mx.S_add, S_pick hi, S_pick hj, S_pick hk, set_other hij, set_other hik]
  rw [show el (a.set i (lineOf ((List.range n).map (xorRow (a.getD j ⟨#[]⟩) (a.getD k ⟨#[]⟩))))) i p = el a j p + el a k p from Mx.F.ext (by
    rw [set_same h hi, bt_line, List.getD_eq_getElem?_getD, List.getElem?_map, List.getElem?_range hp]
    exact xorRow_toNat _ _ _), Mx.add_self]
theorem txset (a : List ByteArray) (i : Nat) (r : ByteArray) : (tx a).set i (.string r) = tx (a.set i r) := by rw [tx, tx, List.map_set]
set_option maxRecDepth 100000 in
set_option maxHeartbeats 4000000 in
theorem singular_alike (s : ByteArray) (n i0 j0 how : Int) (w : World) (ht : Tabs w) (h1 : -9223372036854775808 ≤ n) (h2 : n ≤ 9223372036854775807) (h3 : -9223372036854775808 ≤ i0) (h4 : i0 ≤ 9223372036854775807) (h5 : -9223372036854775808 ≤ j0) (h6 : j0 ≤ 9223372036854775807) (hzs : s.size ≤ 140737488351232)
    (hhow : ∀ w, Calls Tryd.prog 24 #[.int .i64 how, .int .i64 3] w fun e w' => e = .returned (.int .i64 0) ∧ w = w') :
    Calls Tryd.prog 6 #[.string s, .int .i64 n, .int .i64 i0, .int .i64 j0, .int .i64 how] w (Says w (.bool true)) := by
  obtain ⟨p, hp, hpick⟩ := pick_nat n 4 h1 h2 (by decide) (by decide)
  obtain ⟨N, hN⟩ : ∃ N : Nat, N = 3 + p := ⟨_, rfl⟩
  have hN1 : 3 + (p : Int) = (N : Int) := by omega
  have n1 : 3 ≤ N := by omega
  have n2 : N ≤ 6 := by omega
  clear hN
  obtain ⟨i, hi, hpi⟩ := pick_nat i0 (N : Int) h3 h4 (by omega) (by omega)
  obtain ⟨q, hq, hpq⟩ := pick_nat j0 ((N : Int) - 1) h5 h6 (by omega) (by omega)
  obtain ⟨j, hj⟩ : ∃ j : Nat, j = (i + 1 + q) % N := ⟨_, rfl⟩
  have hj1 : ((i : Int) + 1 + (q : Int)) % (N : Int) = (j : Int) := by rw [hj]; push_cast; rfl
  have hjN : j < N := by rw [hj]; exact Nat.mod_lt _ (by omega)
  have hij : i ≠ j := by
    rcases Nat.lt_or_ge (i + 1 + q) N with h | h
    · rw [Nat.mod_eq_of_lt h] at hj; omega
    · rw [Nat.mod_eq_sub_mod h, Nat.mod_eq_of_lt (by omega)] at hj; omega
  have hiN : i < N := by omega
  clear hj
  have hsq := fun W => square_any s N W (by omega) (by omega)
  have ra := squareL_rect s N
  generalize squareL s N = a at *
  have hal := ra.l
  obtain ⟨g1, g2⟩ := sing_alike ra (by omega) (by omega) hiN hjN hij
  have frow := (set_rect (i := i) ra _ (ra.s j hjN)).fits (by omega) (by omega)
  have hinv := fun W hW v hv => inverse_any v (a.set i (a.getD j ⟨#[]⟩)) W hW hv frow
  rw [g1, g2] at hinv
  have hal' := Lib.hid hal
  have hra := Lib.hid ra
  clear hal ra
  go_enter Tryd.func6, Tryd.ntmps6
  go_wp2_with (fail)
  refine (awake_any _ ht).mono ?_
  rintro e w1 ⟨rfl, b1⟩
  have t1 := ht.below b1 ht.two
  go_wp2_with (fail)
  refine (hpick _).mono ?_
  rintro e wq ⟨rfl, rfl⟩
  go_wp2_with (fail)
  refine (hsq _).mono ?_
  rintro e w2 ⟨v2, rfl, o2, b2⟩
  have t2 := t1.below b2 t1.two
  obtain ⟨g, cap, hv2, hg1, hg2⟩ := o2.form (by rw [List.length_map, hal'.out]; omega)
  rw [List.length_map, hal'.out] at hv2
  subst hv2
  go_wp2_with (fail)
  refine (hpi _).mono ?_
  rintro e wq ⟨rfl, rfl⟩
  go_wp2_with (fail)
  refine (hpq _).mono ?_
  rintro e wq ⟨rfl, rfl⟩
  go_wp2_with (fail)
  go_loopw [13] (fun k wr => ∃ K : Nat, K ≤ 2 ∧ k = .int .i64 (K : Int) ∧ w2 = wr ∧ ∀ m, m < K → m = i ∨ m = j) (fun k _ => 2 - (intOf k).toNat)
  case atStart => exact ⟨0, by omega, rfl, rfl, fun m hm => by omega⟩
  case round =>
    obtain ⟨K, hK, rfl, rfl, hm⟩ := hrel
    by_cases hki : K = i
    · have e1 : ((K : Int) == (i : Int)) = true := by rw [beq_iff_eq]; omega
      have hK2 : K < 2 := by
        rcases Nat.lt_or_ge K 2 with h | h
        · exact h
        · have := hm 0 (by omega); have := hm 1 (by omega); omega
      have hm' : Hid (∀ m, m < K + 1 → m = i ∨ m = j) := Lib.hid (fun m h => by
        by_cases e : m = K
        · left; omega
        · exact hm m (by omega))
      clear hm hki
      go_wp2
      go_roundw
      case rel => exact ⟨K + 1, by omega, by go_num, (by first | rfl | trivial), hm'.out⟩
      case measure => simp [intOf]; omega
    · have e1 : ((K : Int) == (i : Int)) = false := by rw [beq_eq_false_iff_ne]; omega
      by_cases hkj : K = j
      · have e2 : ((K : Int) == (j : Int)) = true := by rw [beq_iff_eq]; omega
        have hK2 : K < 2 := by
          rcases Nat.lt_or_ge K 2 with h | h
          · exact h
          · have := hm 0 (by omega); have := hm 1 (by omega); omega
        have hm' : Hid (∀ m, m < K + 1 → m = i ∨ m = j) := Lib.hid (fun m h => by
          by_cases e : m = K
          · right; omega
          · exact hm m (by omega))
        clear hm hkj hki
        go_wp2
        go_roundw
        case rel => exact ⟨K + 1, by omega, by go_num, (by first | rfl | trivial), hm'.out⟩
        case measure => simp [intOf]; omega
      · have e2 : ((K : Int) == (j : Int)) = false := by rw [beq_eq_false_iff_ne]; omega
        have hKN : K < N := by omega
        have hKN' : (K : Int) < (N : Int) := by omega
        have hiN' : (i : Int) < (N : Int) := by omega
        have hjN' : (j : Int) < (N : Int) := by omega
        have hfi := o2.frozen i
        have hci := o2.cell (i := i) (by rw [List.length_map, hal'.out]; omega)
        have hcj := o2.cell (i := j) (by rw [List.length_map, hal'.out]; omega)
        rw [tx_getD _ (by rw [hal'.out]; omega)] at hci hcj
        have hck := o2.cell (i := K) (by rw [List.length_map, hal'.out]; omega)
        rw [tx_getD _ (by rw [hal'.out]; omega)] at hck
        clear hm hki hkj
        generalize a.getD j ⟨#[]⟩ = rj at *
        generalize a.getD i ⟨#[]⟩ = ri at *
        generalize a.getD K ⟨#[]⟩ = rk at *
        go_wp2_with (fail)
        refine (hhow _).mono ?_
        rintro e wq ⟨rfl, rfl⟩
        go_wp2_with (fail)
        have o3 := o2.set i (.string rj)
        rw [txset] at o3
        have bs := (b2.setCell (p := ⟨g, i, none⟩) hg1 (.string rj))
        refine (hinv _ (t2.setCell (by have := t1.two; simp; omega) _) _ o3.reads).mono ?_
        rintro e w5 ⟨v5, rfl, o5, b5⟩
        have l5 := fun W => (o5.reads).len_run (P := Tryd.prog) Tryd.underlying22 3 W
        go_wp2_with (fail)
        go_ret
        exact ⟨rfl, below_c (below_c b1 bs) b5⟩
set_option maxRecDepth 100000 in
set_option maxHeartbeats 4000000 in
theorem singular_nought (s : ByteArray) (n i0 j0 how : Int) (w : World) (ht : Tabs w) (h1 : -9223372036854775808 ≤ n) (h2 : n ≤ 9223372036854775807) (h3 : -9223372036854775808 ≤ i0) (h4 : i0 ≤ 9223372036854775807) (h5 : -9223372036854775808 ≤ j0) (h6 : j0 ≤ 9223372036854775807) (hzs : s.size ≤ 140737488351232)
    (hhow : ∀ w, Calls Tryd.prog 24 #[.int .i64 how, .int .i64 3] w fun e w' => e = .returned (.int .i64 1) ∧ w = w') :
    Calls Tryd.prog 6 #[.string s, .int .i64 n, .int .i64 i0, .int .i64 j0, .int .i64 how] w (Says w (.bool true)) := by
  obtain ⟨p, hp, hpick⟩ := pick_nat n 4 h1 h2 (by decide) (by decide)
  obtain ⟨N, hN⟩ : ∃ N : Nat, N = 3 + p := ⟨_, rfl⟩
  have hN1 : 3 + (p : Int) = (N : Int) := by omega
  have n1 : 3 ≤ N := by omega
  have n2 : N ≤ 6 := by omega
  clear hN
  obtain ⟨i, hi, hpi⟩ := pick_nat i0 (N : Int) h3 h4 (by omega) (by omega)
  obtain ⟨q, hq, hpq⟩ := pick_nat j0 ((N : Int) - 1) h5 h6 (by omega) (by omega)
  obtain ⟨j, hj⟩ : ∃ j : Nat, j = (i + 1 + q) % N := ⟨_, rfl⟩
  have hj1 : ((i : Int) + 1 + (q : Int)) % (N : Int) = (j : Int) := by rw [hj]; push_cast; rfl
  have hjN : j < N := by rw [hj]; exact Nat.mod_lt _ (by omega)
  have hij : i ≠ j := by
    rcases Nat.lt_or_ge (i + 1 + q) N with h | h
    · rw [Nat.mod_eq_of_lt h] at hj; omega
    · rw [Nat.mod_eq_sub_mod h, Nat.mod_eq_of_lt (by omega)] at hj; omega
  have hiN : i < N := by omega
  clear hj
  have hsq := fun W => square_any s N W (by omega) (by omega)
  have ra := squareL_rect s N
  generalize squareL s N = a at *
  have hal := ra.l
  obtain ⟨g1, g2⟩ := sing_nought ra (by omega) (by omega) hiN
  have frow := (set_rect (i := i) ra _ (zrow_size N)).fits (by omega) (by omega)
  have hinv := fun W hW v hv => inverse_any v (a.set i (zrow N)) W hW hv frow
  rw [g1, g2] at hinv
  obtain ⟨i1, hi1, hy0, hy1, hy2⟩ := info_parts Tryd.info5
  have hmk := fun W => Own.make_run (P := Tryd.prog) (T := 36) Tryd.underlying36 hi1 hy0 hy1 hy2 rfl W N (by omega) (by omega)
  have hal' := Lib.hid hal
  have hra := Lib.hid ra
  clear hal ra
  go_enter Tryd.func6, Tryd.ntmps6
  go_wp2_with (fail)
  refine (awake_any _ ht).mono ?_
  rintro e w1 ⟨rfl, b1⟩
  have t1 := ht.below b1 ht.two
  go_wp2_with (fail)
  refine (hpick _).mono ?_
  rintro e wq ⟨rfl, rfl⟩
  go_wp2_with (fail)
  refine (hsq _).mono ?_
  rintro e w2 ⟨v2, rfl, o2, b2⟩
  have t2 := t1.below b2 t1.two
  obtain ⟨g, cap, hv2, hg1, hg2⟩ := o2.form (by rw [List.length_map, hal'.out]; omega)
  rw [List.length_map, hal'.out] at hv2
  subst hv2
  go_wp2_with (fail)
  refine (hpi _).mono ?_
  rintro e wq ⟨rfl, rfl⟩
  go_wp2_with (fail)
  refine (hpq _).mono ?_
  rintro e wq ⟨rfl, rfl⟩
  go_wp2_with (fail)
  go_loopw [13] (fun k wr => ∃ K : Nat, K ≤ 2 ∧ k = .int .i64 (K : Int) ∧ w2 = wr ∧ ∀ m, m < K → m = i ∨ m = j) (fun k _ => 2 - (intOf k).toNat)
  case atStart => exact ⟨0, by omega, rfl, rfl, fun m hm => by omega⟩
  case round =>
    obtain ⟨K, hK, rfl, rfl, hm⟩ := hrel
    by_cases hki : K = i
    · have e1 : ((K : Int) == (i : Int)) = true := by rw [beq_iff_eq]; omega
      have hK2 : K < 2 := by
        rcases Nat.lt_or_ge K 2 with h | h
        · exact h
        · have := hm 0 (by omega); have := hm 1 (by omega); omega
      have hm' : Hid (∀ m, m < K + 1 → m = i ∨ m = j) := Lib.hid (fun m h => by
        by_cases e : m = K
        · left; omega
        · exact hm m (by omega))
      clear hm hki
      go_wp2
      go_roundw
      case rel => exact ⟨K + 1, by omega, by go_num, (by first | rfl | trivial), hm'.out⟩
      case measure => simp [intOf]; omega
    · have e1 : ((K : Int) == (i : Int)) = false := by rw [beq_eq_false_iff_ne]; omega
      by_cases hkj : K = j
      · have e2 : ((K : Int) == (j : Int)) = true := by rw [beq_iff_eq]; omega
        have hK2 : K < 2 := by
          rcases Nat.lt_or_ge K 2 with h | h
          · exact h
          · have := hm 0 (by omega); have := hm 1 (by omega); omega
        have hm' : Hid (∀ m, m < K + 1 → m = i ∨ m = j) := Lib.hid (fun m h => by
          by_cases e : m = K
          · right; omega
          · exact hm m (by omega))
        clear hm hkj hki
        go_wp2
        go_roundw
        case rel => exact ⟨K + 1, by omega, by go_num, (by first | rfl | trivial), hm'.out⟩
        case measure => simp [intOf]; omega
      · have e2 : ((K : Int) == (j : Int)) = false := by rw [beq_eq_false_iff_ne]; omega
        have hKN : K < N := by omega
        have hKN' : (K : Int) < (N : Int) := by omega
        have hiN' : (i : Int) < (N : Int) := by omega
        have hjN' : (j : Int) < (N : Int) := by omega
        have hfi := o2.frozen i
        have hci := o2.cell (i := i) (by rw [List.length_map, hal'.out]; omega)
        have hcj := o2.cell (i := j) (by rw [List.length_map, hal'.out]; omega)
        rw [tx_getD _ (by rw [hal'.out]; omega)] at hci hcj
        have hck := o2.cell (i := K) (by rw [List.length_map, hal'.out]; omega)
        rw [tx_getD _ (by rw [hal'.out]; omega)] at hck
        clear hm hki hkj
        generalize a.getD j ⟨#[]⟩ = rj at *
        generalize a.getD i ⟨#[]⟩ = ri at *
        generalize a.getD K ⟨#[]⟩ = rk at *
        obtain ⟨w3, hmk3, o3, b3⟩ := hmk w2
        have hzr : lineOf (List.replicate N 0) = zrow N := rfl
        have hst := own_back (w := w3) (B := w2.heap.size) (n := (List.replicate N (Value.int .u8 0)).length) (v := .slice (some ⟨w2.heap.size, 0, none⟩) N N) (l := List.replicate N 0) (by rw [show (List.replicate N (0 : UInt8)).map byteVal = List.replicate N (.int .u8 0) by simp [byteVal]]; exact o3.o)
        rw [hzr] at hst
        have o2' := o2.after b3
        have hfi' := o2'.frozen i
        have hci' := o2'.cell (i := i) (by rw [List.length_map, hal'.out]; omega)
        have hzr' := Lib.hid hzr
        clear hzr hmk
        go_wp2_with (fail)
        refine (hhow _).mono ?_
        rintro e wq ⟨rfl, rfl⟩
        go_wp2_with (fail)
        have o4 := o2'.set i (.string (zrow N))
        rw [txset] at o4
        have t3 := t2.below b3 t2.two
        have bs := ((b2.trans (b3.mono b2.size)).setCell (p := ⟨g, i, none⟩) hg1 (.string (zrow N)))
        refine (hinv _ (t3.setCell (by have := t1.two; simp; omega) _) _ o4.reads).mono ?_
        rintro e w5 ⟨v5, rfl, o5, b5⟩
        have l5 := fun W => (o5.reads).len_run (P := Tryd.prog) Tryd.underlying22 3 W
        go_wp2_with (fail)
        go_ret
        exact ⟨rfl, below_c (below_c b1 bs) b5⟩
set_option maxRecDepth 100000 in
set_option maxHeartbeats 4000000 in
theorem singular_sum (s : ByteArray) (n i0 j0 how : Int) (w : World) (ht : Tabs w) (h1 : -9223372036854775808 ≤ n) (h2 : n ≤ 9223372036854775807) (h3 : -9223372036854775808 ≤ i0) (h4 : i0 ≤ 9223372036854775807) (h5 : -9223372036854775808 ≤ j0) (h6 : j0 ≤ 9223372036854775807) (hzs : s.size ≤ 140737488351232)
    (hhow : ∀ w, Calls Tryd.prog 24 #[.int .i64 how, .int .i64 3] w fun e w' => e = .returned (.int .i64 2) ∧ w = w') :
    Calls Tryd.prog 6 #[.string s, .int .i64 n, .int .i64 i0, .int .i64 j0, .int .i64 how] w (Says w (.bool true)) := by
  obtain ⟨p, hp, hpick⟩ := pick_nat n 4 h1 h2 (by decide) (by decide)
  obtain ⟨N, hN⟩ : ∃ N : Nat, N = 3 + p := ⟨_, rfl⟩
  have hN1 : 3 + (p : Int) = (N : Int) := by omega
  have n1 : 3 ≤ N := by omega
  have n2 : N ≤ 6 := by omega
  clear hN
  obtain ⟨i, hi, hpi⟩ := pick_nat i0 (N : Int) h3 h4 (by omega) (by omega)
  obtain ⟨q, hq, hpq⟩ := pick_nat j0 ((N : Int) - 1) h5 h6 (by omega) (by omega)
  obtain ⟨j, hj⟩ : ∃ j : Nat, j = (i + 1 + q) % N := ⟨_, rfl⟩
  have hj1 : ((i : Int) + 1 + (q : Int)) % (N : Int) = (j : Int) := by rw [hj]; push_cast; rfl
  have hjN : j < N := by rw [hj]; exact Nat.mod_lt _ (by omega)
  have hij : i ≠ j := by
    rcases Nat.lt_or_ge (i + 1 + q) N with h | h
    · rw [Nat.mod_eq_of_lt h] at hj; omega
    · rw [Nat.mod_eq_sub_mod h, Nat.mod_eq_of_lt (by omega)] at hj; omega
  have hiN : i < N := by omega
  clear hj
  have hsq := fun W => square_any s N W (by omega) (by omega)
  have ra := squareL_rect s N
  generalize squareL s N = a at *
  have hal := ra.l
  have hinv := fun (k : Nat) (hk : k < N) (hik : i ≠ k) => (fun W hW v hv => inverse_any v (a.set i (lineOf ((List.range N).map (xorRow (a.getD j ⟨#[]⟩) (a.getD k ⟨#[]⟩))))) W hW hv ((set_rect (i := i) ra _ (by show (lineOf _).data.size = N; simp [lineOf])).fits (by omega) (by omega)) : ∀ W (hW : Tabs W) v (hv : Reads W v (tx (a.set i (lineOf ((List.range N).map (xorRow (a.getD j ⟨#[]⟩) (a.getD k ⟨#[]⟩))))))), _)
  have hal' := Lib.hid hal
  have hra := Lib.hid ra
  clear hal ra
  go_enter Tryd.func6, Tryd.ntmps6
  go_wp2_with (fail)
  refine (awake_any _ ht).mono ?_
  rintro e w1 ⟨rfl, b1⟩
  have t1 := ht.below b1 ht.two
  go_wp2_with (fail)
  refine (hpick _).mono ?_
  rintro e wq ⟨rfl, rfl⟩
  go_wp2_with (fail)
  refine (hsq _).mono ?_
  rintro e w2 ⟨v2, rfl, o2, b2⟩
  have t2 := t1.below b2 t1.two
  obtain ⟨g, cap, hv2, hg1, hg2⟩ := o2.form (by rw [List.length_map, hal'.out]; omega)
  rw [List.length_map, hal'.out] at hv2
  subst hv2
  go_wp2_with (fail)
  refine (hpi _).mono ?_
  rintro e wq ⟨rfl, rfl⟩
  go_wp2_with (fail)
  refine (hpq _).mono ?_
  rintro e wq ⟨rfl, rfl⟩
  go_wp2_with (fail)
  go_loopw [13] (fun k wr => ∃ K : Nat, K ≤ 2 ∧ k = .int .i64 (K : Int) ∧ w2 = wr ∧ ∀ m, m < K → m = i ∨ m = j) (fun k _ => 2 - (intOf k).toNat)
  case atStart => exact ⟨0, by omega, rfl, rfl, fun m hm => by omega⟩
  case round =>
    obtain ⟨K, hK, rfl, rfl, hm⟩ := hrel
    by_cases hki : K = i
    · have e1 : ((K : Int) == (i : Int)) = true := by rw [beq_iff_eq]; omega
      have hK2 : K < 2 := by
        rcases Nat.lt_or_ge K 2 with h | h
        · exact h
        · have := hm 0 (by omega); have := hm 1 (by omega); omega
      have hm' : Hid (∀ m, m < K + 1 → m = i ∨ m = j) := Lib.hid (fun m h => by
        by_cases e : m = K
        · left; omega
        · exact hm m (by omega))
      clear hm hki
      go_wp2
      go_roundw
      case rel => exact ⟨K + 1, by omega, by go_num, (by first | rfl | trivial), hm'.out⟩
      case measure => simp [intOf]; omega
    · have e1 : ((K : Int) == (i : Int)) = false := by rw [beq_eq_false_iff_ne]; omega
      by_cases hkj : K = j
      · have e2 : ((K : Int) == (j : Int)) = true := by rw [beq_iff_eq]; omega
        have hK2 : K < 2 := by
          rcases Nat.lt_or_ge K 2 with h | h
          · exact h
          · have := hm 0 (by omega); have := hm 1 (by omega); omega
        have hm' : Hid (∀ m, m < K + 1 → m = i ∨ m = j) := Lib.hid (fun m h => by
          by_cases e : m = K
          · right; omega
          · exact hm m (by omega))
        clear hm hkj hki
        go_wp2
        go_roundw
        case rel => exact ⟨K + 1, by omega, by go_num, (by first | rfl | trivial), hm'.out⟩
        case measure => simp [intOf]; omega
      · have e2 : ((K : Int) == (j : Int)) = false := by rw [beq_eq_false_iff_ne]; omega
        have hKN : K < N := by omega
        have hKN' : (K : Int) < (N : Int) := by omega
        have hiN' : (i : Int) < (N : Int) := by omega
        have hjN' : (j : Int) < (N : Int) := by omega
        have hfi := o2.frozen i
        have hci := o2.cell (i := i) (by rw [List.length_map, hal'.out]; omega)
        have hcj := o2.cell (i := j) (by rw [List.length_map, hal'.out]; omega)
        rw [tx_getD _ (by rw [hal'.out]; omega)] at hci hcj
        have hck := o2.cell (i := K) (by rw [List.length_map, hal'.out]; omega)
        rw [tx_getD _ (by rw [hal'.out]; omega)] at hck
        clear hm hki hkj
        obtain ⟨g1, g2⟩ := sing_sum hra.out (by omega) (by omega) hiN hjN hKN hij (by intro e; simp at e1; omega)
        have hinv2 := hinv K hKN (by intro e; simp at e1; omega)
        rw [g1, g2] at hinv2
        have hsj := hra.out.s j hjN
        have hsk := hra.out.s K hKN
        clear hinv g1 g2
        generalize a.getD j ⟨#[]⟩ = rj at *
        generalize a.getD K ⟨#[]⟩ = rk at *
        obtain ⟨capr, w3, C, hcv, hM3, b3, hw3⟩ := MRow.make_run w2 rj
        have hrl : rj.data.toList.length = N := by rw [← hsj]; simp
        have hrj16 : rj.size ≤ 16 := by omega
        have hrn : rj.size ≤ N := by omega
        have hrn' : N ≤ rj.size := by omega
        have hqk16 : N ≤ rk.size := by omega
        have t3 := t2.below b3 t2.two
        have hck3 : w3.cell? ⟨g, K, none⟩ = some (.string rk) := by rw [b3.cell (p := ⟨g, K, none⟩) hg2]; exact hck
        clear hsj hsk hw3 hpick hpi hpq hsq
        go_wp2_with (fail)
        refine (hhow _).mono ?_
        rintro e wq ⟨rfl, rfl⟩
        go_wp2_with (fail)
        go_loopw [15] (fun q W => ∃ Q : Nat, Q ≤ N ∧ q = .int .i64 (Q : Int) ∧ MRow W w2.heap.size C (chTo (xorRow rj rk) rj.data.toList Q) ∧ Below w2.heap.size w2 W) (fun q _ => N - (intOf q).toNat)
        case atStart => exact ⟨0, by omega, rfl, by rw [chTo_zero]; exact hM3, b3⟩
        case round =>
          obtain ⟨Q, hQ, rfl, hMq, hbelq⟩ := hrel
          have hcl0 := chTo_length (xorRow rj rk) rj.data.toList (k := Q) (by omega)
          by_cases hlq : Q < N
          · have c2 : (Q : Int) < (N : Int) := by omega
            have c2' : (Q : Int) < (rj.size : Int) := by omega
            have c3 : (Q : Int) < (rk.size : Int) := by omega
            have hfz := hMq.frozen (i := Q) (by omega)
            have hcl := hMq.cell (i := Q) (by omega)
            rw [chTo_at (xorRow rj rk) rj.data.toList (by omega)] at hcl
            have hckW : wr.cell? ⟨g, K, none⟩ = some (.string rk) := by rw [hbelq.cell (p := ⟨g, K, none⟩) hg2]; exact hck
            have hbyte : (((rj.data.toList.getD Q 0).toNat : Nat) : Int) = ((bt rj Q : Nat) : Int) := by rw [bt_list]
            have hl1 := bt_lt rj Q
            have hl2 := bt_lt rk Q
            have hxx := xor8 ((bt rj Q : Nat) : Int) (((rk[Q]).toNat : Nat) : Int) (by omega) (by omega) (by omega) (by rw [bt_get (show Q < rk.size by omega)]; omega)
            rw [Int.toNat_natCast, Int.toNat_natCast] at hxx
            rw [hbyte] at hcl
            have hnq : Hid (chTo (xorRow rj rk) rj.data.toList (Q + 1) = (chTo (xorRow rj rk) rj.data.toList Q).set Q (xorRow rj rk Q)) := Lib.hid (chTo_succ _ rj.data.toList (by omega))
            have hval : Hid (((bt rj Q ^^^ (rk[Q]).toNat : Nat) : Int) = (((xorRow rj rk Q).toNat : Nat) : Int)) := Lib.hid (by rw [xorRow_toNat, bt_get (show Q < rk.size by omega)])
            clear hbyte hcv hM3 hck3 hck hcj hci
            generalize bt rj Q = rb at *
            go_wp2
            go_region
            all_goals
              go_wp2
              go_roundw
              case rel => exact ⟨Q + 1, by omega, by go_num, by rw [hnq.out]; exact (hMq.set (by omega) (xorRow rj rk Q) _ hval.out).drew, (hbelq.setCell (Nat.le_refl _) _).drew⟩
              case measure => simp [intOf]; omega
          · have e : Q = N := by omega
            subst e
            have hst := hMq.str rj.size capr (by rw [hcl0]; simp)
            have hrq : rj.size = Q := by omega
            rw [show Q = rj.data.toList.length by omega, chTo_all, hrl] at hst
            have o4 := o2.after hbelq
            have hfi' := o4.frozen i
            have hci' := o4.cell (i := i) (by rw [List.length_map, hal'.out]; omega)
            have hrq' := Lib.hid hrq
            have t4 := t2.below hbelq t2.two
            clear hcv hM3 hck3 hrq
            go_wp2_with (fail)
            have o5 := o4.set i (.string (lineOf ((List.range Q).map (xorRow rj rk))))
            rw [txset] at o5
            have bs := ((b2.trans (hbelq.mono b2.size)).setCell (p := ⟨g, i, none⟩) hg1 (.string (lineOf ((List.range Q).map (xorRow rj rk)))))
            refine (hinv2 _ (t4.setCell (by have := t1.two; simp; omega) _) _ o5.reads).mono ?_
            rintro e w6 ⟨v6, rfl, o6, b6⟩
            have l6 := fun W => (o6.reads).len_run (P := Tryd.prog) Tryd.underlying22 3 W
            go_wp2_with (fail)
            go_ret
            exact ⟨rfl, below_c (below_c b1 bs) b6⟩
theorem singular_walk (s : ByteArray) (n i j how : Int) (w : World) (ht : Tabs w) (h1 : -9223372036854775808 ≤ n) (h2 : n ≤ 9223372036854775807) (h3 : -9223372036854775808 ≤ i) (h4 : i ≤ 9223372036854775807) (h5 : -9223372036854775808 ≤ j) (h6 : j ≤ 9223372036854775807) (h7 : -9223372036854775808 ≤ how) (h8 : how ≤ 9223372036854775807) (hzs : s.size ≤ 140737488351232) :
    Calls Tryd.prog 6 #[.string s, .int .i64 n, .int .i64 i, .int .i64 j, .int .i64 how] w (Says w (.bool true)) := by
  obtain ⟨h, hh, hpick⟩ := pick_nat how 3 h7 h8 (by decide) (by decide)
  match h, hh, hpick with
  | 0, _, hp => exact singular_alike s n i j how w ht h1 h2 h3 h4 h5 h6 hzs hp
  | 1, _, hp => exact singular_nought s n i j how w ht h1 h2 h3 h4 h5 h6 hzs hp
  | 2, _, hp => exact singular_sum s n i j how w ht h1 h2 h3 h4 h5 h6 hzs hp
  | h + 3, hh, _ => omega
end Go.Proofs.YtocaboamlagaaaaDoor
