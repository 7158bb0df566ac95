/- mat's law: a product is made place by place. -/
import Derived.Test.YtocaboamlagaaaaDoorMatLaw4
import Derived.Test.YtocaboamlagaaaaDoorSl2
namespace Go.Proofs.YtocaboamlagaaaaDoor
open Go.RowKit
set_option linter.unusedVariables false
set_option linter.unusedSimpArgs false

def wRow (r : ByteArray) (l : Nat) (i : Nat) : ByteArray := r.extract (i * l) (i * l + l)
def wL (r : ByteArray) (l c i : Nat) : ByteArray := (wRow r l i).extract 0 c
def wR (r : ByteArray) (l c i : Nat) : ByteArray := (wRow r l i).extract c (wRow r l i).size
theorem span_le {r : ByteArray} {l n i : Nat} (h : n * l ≤ r.size) (hi : i < n) : i * l + l ≤ r.size := by
  have := Nat.mul_le_mul_right l (show i + 1 ≤ n by omega)
  rw [Nat.add_mul, Nat.one_mul] at this
  omega
theorem wRow_size {r : ByteArray} {l n i : Nat} (h : n * l ≤ r.size) (hi : i < n) : (wRow r l i).size = l := by
  have := span_le h hi
  rw [wRow, ByteArray.size_extract]; omega
theorem firstL_get (f : Nat → ByteArray) {k i : Nat} (h : i < k) : (firstL f k).getD i ⟨#[]⟩ = f i := by
  simp [firstL, List.getD_eq_getElem?_getD, h]
theorem firstL_rect {f : Nat → ByteArray} {m n : Nat} (h : ∀ i, i < m → (f i).size = n) : Rect (firstL f m) m n := ⟨firstL_length f m, fun i hi => by rw [firstL_get f hi]; exact h i hi⟩
theorem bt_take (s : ByteArray) {c j : Nat} (h : j < c) (hc : c ≤ s.size) : bt (s.extract 0 c) j = bt s j := by
  simp only [bt, ByteArray.data_extract, Array.getElem?_extract]
  rw [if_pos (by simp; omega), Nat.zero_add]
theorem places_eq {a : List ByteArray} {r : ByteArray} {n l c i : Nat} (ra : Rect a n n) (h1 : 1 ≤ n) (h2 : n ≤ 16) (hl : n * l ≤ r.size) (hl2 : 2 ≤ l) (hl3 : l ≤ 50) (hc1 : 1 ≤ c) (hc2 : c < l) (hi : i < n) :
    (mulL a (firstL (wRow r l) n)).getD i ⟨#[]⟩ = (mulL a (firstL (wL r l c) n)).getD i ⟨#[]⟩ ++ (mulL a (firstL (wR r l c) n)).getD i ⟨#[]⟩ := by
  have rb : Rect (firstL (wRow r l) n) n l := firstL_rect fun i hi => wRow_size hl hi
  have rl : Rect (firstL (wL r l c) n) n c := firstL_rect fun i hi => by rw [wL, ByteArray.size_extract, wRow_size hl hi]; omega
  have rr : Rect (firstL (wR r l c) n) n (l - c) := firstL_rect fun i hi => by rw [wR, ByteArray.size_extract, wRow_size hl hi]; omega
  have o1 := mulOk_of ra rb h1 h2 h1 h2 (by omega) (by omega)
  have o2 := mulOk_of ra rl h1 h2 h1 h2 (by omega) (by omega)
  have o3 := mulOk_of ra rr h1 h2 h1 h2 (by omega) (by omega)
  have q1 := mulL_rect ra rb h1 o1
  have q2 := mulL_rect ra rl h1 o2
  have q3 := mulL_rect ra rr h1 o3
  refine text_ext (by rw [app_size, q1.s i hi, q2.s i hi, q3.s i hi]; omega) fun j hj => ?_
  rw [q1.s i hi] at hj
  rw [bt_append, q2.s i hi, ← el_v (mulL a (firstL (wRow r l) n)), mulL_el ra rb h1 o1 hi hj]
  by_cases hjc : j < c
  · rw [if_pos hjc, ← el_v (mulL a (firstL (wL r l c) n)), mulL_el ra rl h1 o2 hi hjc]
    congr 1
    refine Mx.mul_congr (fun _ _ => rfl) fun k hk => Mx.F.ext ?_
    rw [el_v, el_v, firstL_get _ hk, firstL_get _ hk, wL, bt_take _ hjc (by rw [wRow_size hl hk]; omega)]
  · rw [if_neg hjc, ← el_v (mulL a (firstL (wR r l c) n)), mulL_el ra rr h1 o3 hi (by omega)]
    show (Mx.S n _).v = (Mx.S n _).v
    congr 1
    refine Mx.S_congr fun k hk => ?_
    congr 1
    refine Mx.F.ext ?_
    rw [el_v, el_v, firstL_get _ hk, firstL_get _ hk, wR, bt_extract _ (by rw [wRow_size hl hk]; omega), show c + (j - c) = j by omega]
set_option maxRecDepth 100000 in
set_option maxHeartbeats 4000000 in
theorem places_short (s : ByteArray) (n : Int) (r : ByteArray) (cut : Int) (w : World) (ht : Tabs w) (h1 : -9223372036854775808 ≤ n) (h2 : n ≤ 9223372036854775807) (h3 : -9223372036854775808 ≤ cut) (h4 : cut ≤ 9223372036854775807) (hzs : s.size ≤ 140737488351232) (hzr : r.size ≤ 140737488351232)
    (N : Nat) (n1 : 1 ≤ N) (n2 : N ≤ 5) (p : Nat) (hN1 : 1 + (p : Int) = (N : Int)) (hpick : ∀ w, Calls Tryd.prog 24 #[.int .i64 n, .int .i64 5] w fun e w' => e = .returned (.int .i64 (p : Int)) ∧ w = w') (L : Nat) (hL : (r.size : Int) / (N : Int) = (L : Int)) (hs : L < 2 ∨ 50 < L) (hp5 : (p : Int) ≤ 4) (hLb : (L : Int) ≤ 140737488351232) :
    Calls Tryd.prog 11 #[.string s, .int .i64 n, .string r, .int .i64 cut] w (Says w (.bool true)) := by
  have n3 : N ≤ 16 := by omega
  have hsqa := fun W => square_any s N W n3 (by omega)
  have ra := squareL_rect s N
  generalize squareL s N = a at *
  have fa := ra.fits (by omega) (by omega)
  clear fa ra
  rcases hs with hs | hs
  · have e1 : decide ((L : Int) < 2) = true := by simp; omega
    go_enter Tryd.func11, Tryd.ntmps11
    go_wp2_with (fail)
    refine (awake_any _ ht).mono ?_
    rintro e w1 ⟨rfl, b1⟩
    have t1 := ht.below b1 ht.two
    go_wp2_with (fail)
    refine (hpick _).mono ?_
    rintro e wq ⟨rfl, rfl⟩
    go_wp2_with (fail)
    refine (hsqa _).mono ?_
    rintro e w2 ⟨v2, rfl, o2, b2⟩
    have t2 := t1.below b2 t1.two
    have r2_a := o2.reads
    go_wp2_with (fail)
    go_ret
    exact ⟨rfl, below_c b1 b2⟩
  · have e1 : decide ((L : Int) < 2) = false := by simp; omega
    have e2 : decide (50 < (L : Int)) = true := by simp; omega
    go_enter Tryd.func11, Tryd.ntmps11
    go_wp2_with (fail)
    refine (awake_any _ ht).mono ?_
    rintro e w1 ⟨rfl, b1⟩
    have t1 := ht.below b1 ht.two
    go_wp2_with (fail)
    refine (hpick _).mono ?_
    rintro e wq ⟨rfl, rfl⟩
    go_wp2_with (fail)
    refine (hsqa _).mono ?_
    rintro e w2 ⟨v2, rfl, o2, b2⟩
    have t2 := t1.below b2 t1.two
    have r2_a := o2.reads
    go_wp2_with (fail)
    go_ret
    exact ⟨rfl, below_c b1 b2⟩
set_option maxRecDepth 100000 in
set_option maxHeartbeats 4000000 in
theorem places_long (s : ByteArray) (n : Int) (r : ByteArray) (cut : Int) (w : World) (ht : Tabs w) (h1 : -9223372036854775808 ≤ n) (h2 : n ≤ 9223372036854775807) (h3 : -9223372036854775808 ≤ cut) (h4 : cut ≤ 9223372036854775807) (hzs : s.size ≤ 140737488351232) (hzr : r.size ≤ 140737488351232)
    (N : Nat) (n1 : 1 ≤ N) (n2 : N ≤ 5) (p : Nat) (hN1 : 1 + (p : Int) = (N : Int)) (hpick : ∀ w, Calls Tryd.prog 24 #[.int .i64 n, .int .i64 5] w fun e w' => e = .returned (.int .i64 (p : Int)) ∧ w = w') (L : Nat) (hL : (r.size : Int) / (N : Int) = (L : Int)) (hs2 : 2 ≤ L) (hs3 : L ≤ 50) (hp5 : (p : Int) ≤ 4) (hLb : (L : Int) ≤ 140737488351232) (hNL : N * L ≤ r.size)
    (q : Nat) (hq : (q : Int) < (L : Int) - 1) (hpq : ∀ w, Calls Tryd.prog 24 #[.int .i64 cut, .int .i64 ((L : Int) - 1)] w fun e w' => e = .returned (.int .i64 (q : Int)) ∧ w = w') :
    Calls Tryd.prog 11 #[.string s, .int .i64 n, .string r, .int .i64 cut] w (Says w (.bool true)) := by
  have n3 : N ≤ 16 := by omega
  obtain ⟨i0, hi, hz0, hz1, hz2⟩ := info_parts Tryd.infoS
  obtain ⟨c, hc⟩ : ∃ c : Nat, c = 1 + q := ⟨_, rfl⟩
  have hc1 : 1 + (q : Int) = (c : Int) := by omega
  have hcL : c < L := by omega
  have hc0 : 1 ≤ c := by omega
  clear hc
  have hsqa := fun W => square_any s N W n3 (by omega)
  have ra := squareL_rect s N
  generalize squareL s N = a at *
  have fa := ra.fits (by omega) (by omega)
  have rb : Rect (firstL (wRow r L) N) N L := firstL_rect fun i hi => wRow_size hNL hi
  have rl : Rect (firstL (wL r L c) N) N c := firstL_rect fun i hi => by rw [wL, ByteArray.size_extract, wRow_size hNL hi]; omega
  have rr : Rect (firstL (wR r L c) N) N (L - c) := firstL_rect fun i hi => by rw [wR, ByteArray.size_extract, wRow_size hNL hi]; omega
  have o1 := mulOk_of ra rb n1 n3 n1 n3 (by omega) (by omega)
  have o2 := mulOk_of ra rl n1 n3 n1 n3 (by omega) (by omega)
  have o3 := mulOk_of ra rr n1 n3 n1 n3 (by omega) (by omega)
  have qx := mulL_rect ra rb n1 o1
  have qy := mulL_rect ra rl n1 o2
  have qz := mulL_rect ra rr n1 o3
  have cx := fun W hW va vb ha hb => mxmul_any va vb a (firstL (wRow r L) N) W hW ha hb fa (rb.fits (by omega) (by omega))
  have cy := fun W hW va vb ha hb => mxmul_any va vb a (firstL (wL r L c) N) W hW ha hb fa (rl.fits (by omega) (by omega))
  have cz := fun W hW va vb ha hb => mxmul_any va vb a (firstL (wR r L c) N) W hW ha hb fa (rr.fits (by omega) (by omega))
  rw [mulE, if_pos o1] at cx
  rw [mulE, if_pos o2] at cy
  rw [mulE, if_pos o3] at cz
  have hpe := Lib.hid (fun i (hi : i < N) => places_eq ra n1 n3 hNL hs2 hs3 hc0 hcL hi)
  have lx := Lib.hid qx.l
  have ly := Lib.hid qy.l
  have lz := Lib.hid qz.l
  have sx := Lib.hid qx.s
  have sy := Lib.hid qy.s
  have sz := Lib.hid qz.s
  generalize mulL a (firstL (wRow r L) N) = X at *
  generalize mulL a (firstL (wL r L c) N) = Y at *
  generalize mulL a (firstL (wR r L c) N) = Z at *
  clear rb rl rr o1 o2 o3 qx qy qz
  have hNL' := Lib.hid hNL
  clear hNL
  go_enter Tryd.func11, Tryd.ntmps11
  go_wp2_with (fail)
  refine (awake_any _ ht).mono ?_
  rintro e w1 ⟨rfl, b1⟩
  have t1 := ht.below b1 ht.two
  go_wp2_with (fail)
  refine (hpick _).mono ?_
  rintro e wq ⟨rfl, rfl⟩
  go_wp2_with (fail)
  refine (hsqa _).mono ?_
  rintro e w2 ⟨v2, rfl, o2, b2⟩
  have t2 := t1.below b2 t1.two
  have r2_a := o2.reads
  go_wp2_with (fail)
  refine (hpq _).mono ?_
  rintro e wq ⟨rfl, rfl⟩
  go_wp2_with (fail)
  go_loopw [12, 13, 14, 15, 16] (fun vb vl vr i _ wr => ∃ k : Nat, k ≤ N ∧ i = .int .i64 (k : Int) ∧ Own wr w2.heap.size 9 vb (tx (firstL (wRow r L) k)) ∧ Own wr w2.heap.size 9 vl (tx (firstL (wL r L c) k)) ∧ Own wr w2.heap.size 9 vr (tx (firstL (wR r L c) k)) ∧ Apart vb vl ∧ Apart vb vr ∧ Apart vl vr ∧ Below w2.heap.size w2 wr) (fun _ _ _ i _ _ => N - (intOf i).toNat)
  case atStart => exact ⟨0, by omega, rfl, Own.nil _ _ _, Own.nil _ _ _, Own.nil _ _ _, Apart.nil _, Apart.nil _, Apart.nil _, Below.refl _ _⟩
  case round =>
    obtain ⟨k, hk, rfl, ob, ol, or_, a1, a2, a3, hbel⟩ := hrel
    obtain ⟨vb, rfl⟩ : ∃ v, v = u12 := ⟨_, rfl⟩
    obtain ⟨vl, rfl⟩ : ∃ v, v = u13 := ⟨_, rfl⟩
    obtain ⟨vr, rfl⟩ : ∃ v, v = u14 := ⟨_, rfl⟩
    by_cases hlt : k < N
    · have e1 : (k : Int) < (N : Int) := by omega
      have hsp := span_le hNL'.out hlt
      have hkl : k * L ≤ 250 := Nat.le_trans (Nat.mul_le_mul (show k ≤ 5 by omega) hs3) (by decide)
      have hkL : (k : Int) * (L : Int) = ((k * L : Nat) : Int) := by push_cast; rfl
      have e2 : 0 ≤ (k : Int) * (L : Int) := by omega
      have e3 : (k : Int) * (L : Int) ≤ 250 := by omega
      have e4 : (k : Int) * (L : Int) + (L : Int) ≤ (r.size : Int) := by omega
      have e5 : ((k : Int) * (L : Int)).toNat = k * L := by omega
      have e6 : ((k : Int) * (L : Int) + (L : Int)).toNat = k * L + L := by omega
      have hrs := wRow_size hNL'.out hlt
      have f1 := firstL_length (wRow r L) k
      have f2 := firstL_length (wL r L c) k
      have f3 := firstL_length (wR r L c) k
      have x1 := Lib.hid (firstL_succ (wRow r L) k)
      have x2 := Lib.hid (firstL_succ (wL r L c) k)
      have x3 := Lib.hid (firstL_succ (wR r L c) k)
      have e7 : (c : Int) ≤ ((wRow r L k).size : Int) := by omega
      have e8 : ((wRow r L k).size : Int) ≤ 1000 := by omega
      have hz := hbel.size
      have g1 := fun W => slice_run (P := Tryd.prog) Tryd.underlying9 r ((k : Int) * (L : Int)) ((k : Int) * (L : Int) + (L : Int)) (k * L) (k * L + L) hkL (by omega) (by omega) (by omega) W
      rw [show r.extract (k * L) (k * L + L) = wRow r L k from rfl] at g1
      have g2 := fun W => slice_to_run (P := Tryd.prog) Tryd.underlying9 (wRow r L k) (c : Int) c rfl (by omega) W
      rw [show (wRow r L k).extract 0 c = wL r L c k from rfl] at g2
      have g3 := fun W => slice_from_run (P := Tryd.prog) Tryd.underlying9 (wRow r L k) (c : Int) c rfl (by omega) W
      rw [show (wRow r L k).extract c (wRow r L k).size = wR r L c k from rfl] at g3
      clear hkL hrs hsp hkl e5 e6
      obtain ⟨v1, w3, hap1, p1, q1, r1, s1⟩ := Own.pushA (P := Tryd.prog) (T := 22) Tryd.underlying22 hi hz0 hz1 hz2 rfl ob (.string (wRow r L k)) rfl (by omega) (by rw [List.length_map, f1]; omega) (by rw [List.length_map, f1]; omega)
      have ol1 := ol.kept r1 a1.symm
      have or1 := or_.kept r1 a2.symm
      have a1' := (a1.symm.push ol s1).symm
      have a2' := (a2.symm.push or_ s1).symm
      have hz3 := q1.size
      obtain ⟨v2, w4, hap2, p2, q2, r2, s2⟩ := Own.pushA (P := Tryd.prog) (T := 22) Tryd.underlying22 hi hz0 hz1 hz2 rfl ol1 (.string (wL r L c k)) rfl (by omega) (by rw [List.length_map, f2]; omega) (by rw [List.length_map, f2]; omega)
      have ob2 := p1.kept r2 a1'
      have or2 := or1.kept r2 a3.symm
      have a1'' := a1'.push p1 s2
      have a3' := (a3.symm.push or1 s2).symm
      have hz4 := q2.size
      obtain ⟨v3, w5, hap3, p3, q3, r3, s3⟩ := Own.pushA (P := Tryd.prog) (T := 22) Tryd.underlying22 hi hz0 hz1 hz2 rfl or2 (.string (wR r L c k)) rfl (by omega) (by rw [List.length_map, f3]; omega) (by rw [List.length_map, f3]; omega)
      have ob3 := ob2.kept r3 a2'
      have ol3 := p2.kept r3 a3'
      have a2'' := a2'.push ob2 s3
      have a3'' := a3'.push p2 s3
      clear f1 f2 f3 s1 s2 s3 r1 r2 r3
      go_wp2_with (first | (at_builtin; refine wpList_append_run hap1 _ _ rfl rfl rfl rfl rfl ?_) | (at_builtin; refine wpList_append_run hap2 _ _ rfl rfl rfl rfl rfl ?_) | (at_builtin; refine wpList_append_run hap3 _ _ rfl rfl rfl rfl rfl ?_))
      go_roundw
      case rel => exact ⟨k + 1, by omega, by go_num, by rw [x1.out]; exact ob3, by rw [x2.out]; exact ol3, by rw [x3.out]; exact p3, a1'', a2'', a3'', ((hbel.trans q1).trans q2).trans q3⟩
      case measure => simp [intOf]; omega
    · have e : k = N := by omega
      subst e
      have t9 := t2.below hbel t2.two
      have ra := (o2.reads).below hbel
      go_wp2_with (fail)
      refine (cx _ t9 _ _ ra ob.reads).mono ?_
      rintro e w6 ⟨v6, rfl, o6, b6⟩
      have t6 := t9.below b6 t9.two
      have r6_a := ra.below b6
      have r6_b := ob.reads.below b6
      have r6_l := ol.reads.below b6
      have r6_r := or_.reads.below b6
      have r6_x := o6.reads
      go_wp2_with (fail)
      refine (cy _ t6 _ _ r6_a r6_l).mono ?_
      rintro e w7 ⟨v7, rfl, o7, b7⟩
      have t7 := t6.below b7 t6.two
      have r7_a := r6_a.below b7
      have r7_l := r6_l.below b7
      have r7_r := r6_r.below b7
      have r7_x := r6_x.below b7
      have r7_y := o7.reads
      go_wp2_with (fail)
      refine (cz _ t7 _ _ r7_a r7_r).mono ?_
      rintro e w8 ⟨v8, rfl, o8, b8⟩
      have t8 := t7.below b8 t7.two
      have r8_a := r7_a.below b8
      have r8_r := r7_r.below b8
      have r8_x := r7_x.below b8
      have r8_y := r7_y.below b8
      have r8_z := o8.reads
      have nx := fun W => (r8_x).len_run (P := Tryd.prog) Tryd.underlying22 3 W
      rw [List.length_map, lx.out] at nx
      have ny := fun W => (r8_y).len_run (P := Tryd.prog) Tryd.underlying22 3 W
      rw [List.length_map, ly.out] at ny
      have nz := fun W => (r8_z).len_run (P := Tryd.prog) Tryd.underlying22 3 W
      rw [List.length_map, lz.out] at nz
      go_wp2_with (fail)
      rcases (r8_x).srow with ⟨_, e⟩ | ⟨bx, ox, capx, rfl, hSx⟩
      · have := lx.out; rw [e] at this; simp at this; omega
      rcases (r8_y).srow with ⟨_, e⟩ | ⟨by_, oy, capy, rfl, hSy⟩
      · have := ly.out; rw [e] at this; simp at this; omega
      rcases (r8_z).srow with ⟨_, e⟩ | ⟨bz, oz, capz, rfl, hSz⟩
      · have := lz.out; rw [e] at this; simp at this; omega
      clear nx ny nz
      have hB0 : Below w.heap.size w w8 := below_c (below_c (below_c (below_c b1 b2) hbel) b6) (below_c b7 b8)
      go_loopw [23] (fun i wr => ∃ j : Nat, j ≤ k ∧ i = .int .i64 (j : Int) ∧ Below w8.heap.size w8 wr) (fun i _ => k - (intOf i).toNat)
      case atStart => exact ⟨0, by omega, rfl, Below.refl _ _⟩
      case round =>
        obtain ⟨j, hj, rfl, hbj⟩ := hrel
        by_cases hlj : j < k
        · have e1 : (j : Int) < (k : Int) := by omega
          have c1 := (hSx.below hbj).cell j (by have := lx.out; omega)
          have c2 := (hSy.below hbj).cell j (by have := ly.out; omega)
          have c3 := (hSz.below hbj).cell j (by have := lz.out; omega)
          have d1 : (j : Int) < (X.length : Int) := by have := lx.out; omega
          have d2 : (j : Int) < (Y.length : Int) := by have := ly.out; omega
          have d3 : (j : Int) < (Z.length : Int) := by have := lz.out; omega
          have hpj := hpe.out j hlj
          have z2 := sy.out j hlj
          have z3 := sz.out j hlj
          have hadd : ¬ 9223372036854775807 < (Y.getD j ⟨#[]⟩).size + (Z.getD j ⟨#[]⟩).size := by omega
          rw [hpj] at c1
          clear hpj z2 z3
          generalize Y.getD j ⟨#[]⟩ = yj at *
          generalize Z.getD j ⟨#[]⟩ = zj at *
          go_wp2
          go_quiet (fail)
          go_wp2
          go_roundw
          case rel => exact ⟨j + 1, by omega, by go_num, belowN hbj _⟩
          case measure => simp [intOf]; omega
        · have e : j = k := by omega
          subst e
          go_wp2
          go_ret
          exact ⟨rfl, below_c hB0 hbj⟩
theorem places_walk (s : ByteArray) (n : Int) (r : ByteArray) (cut : Int) (w : World) (ht : Tabs w) (h1 : -9223372036854775808 ≤ n) (h2 : n ≤ 9223372036854775807) (h3 : -9223372036854775808 ≤ cut) (h4 : cut ≤ 9223372036854775807) (hzs : s.size ≤ 140737488351232) (hzr : r.size ≤ 140737488351232) :
    Calls Tryd.prog 11 #[.string s, .int .i64 n, .string r, .int .i64 cut] w (Says w (.bool true)) := by
  obtain ⟨p, hp, hpick⟩ := pick_nat n 5 h1 h2 (by decide) (by decide)
  have hL : (r.size : Int) / ((1 + p : Nat) : Int) = ((r.size / (1 + p) : Nat) : Int) := by push_cast; rfl
  have hle : r.size / (1 + p) ≤ r.size := Nat.div_le_self _ _
  by_cases hs : r.size / (1 + p) < 2 ∨ 50 < r.size / (1 + p)
  · exact places_short s n r cut w ht h1 h2 h3 h4 hzs hzr (1 + p) (by omega) (by omega) p (by omega) hpick _ hL hs (by omega) (by omega)
  · obtain ⟨q, hq, hpq⟩ := pick_nat cut (((r.size / (1 + p) : Nat) : Int) - 1) h3 h4 (by omega) (by omega)
    exact places_long s n r cut w ht h1 h2 h3 h4 hzs hzr (1 + p) (by omega) (by omega) p (by omega) hpick _ hL (by omega) (by omega) (by omega) (by omega) (Nat.mul_div_le _ _) q hq hpq
end Go.Proofs.YtocaboamlagaaaaDoor
