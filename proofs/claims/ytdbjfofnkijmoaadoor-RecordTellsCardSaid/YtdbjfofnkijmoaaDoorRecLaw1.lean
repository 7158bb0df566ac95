/- record: what the document says of records. -/
import Derived.Test.YtdbjfofnkijmoaaDoorRecHdM
namespace Go.Proofs.YtdbjfofnkijmoaaDoor
open Go.RowKit
set_option linter.unusedVariables false
set_option linter.unusedSimpArgs false

open Rc
/-- What both lay. -/
def layOf (K M B q : Int) (l : List St) : ByteArray := if rightB K M B q l then layS q l else ⟨#[]⟩
def bodyOf (K M B q : Int) (l : List St) : List ByteArray := if rightB K M B q l then allT l else []
theorem bodyOf_len (K M B q : Int) (l : List St) : (bodyOf K M B q l).length ≤ 140737488355328 := by
  unfold bodyOf
  split
  · rename_i h
    have hf := right_f h
    have hk := hf.k
    have hn := hf.n
    rw [allT_len (k := K.toNat) fun s hs => by have := hf.d s hs; omega]
    exact Nat.le_trans (Nat.mul_le_mul hn.2 (show K.toNat ≤ 4 by omega)) (by decide)
  · exact Nat.zero_le _
theorem take_z {K M B : Int} {h : ByteArray} {b : List ByteArray} {m : List St} (hm : m.map pr = (if takeB K M B h b then takeL K h b else [])) : m.length ≤ 16 ∧ ∀ s ∈ m, s.d.length ≤ 140737488355328 ∧ ∀ t ∈ s.d, t.size ≤ 140737488355328 := by
  cases ht : takeB K M B h b with
  | false =>
    rw [ht] at hm
    simp only [Bool.false_eq_true, if_false, List.map_eq_nil_iff] at hm
    subst hm
    exact ⟨Nat.zero_le _, fun s hs => by cases hs⟩
  | true =>
    rw [ht, if_pos rfl] at hm
    have hr := take_right ht hm
    exact ⟨(right_f hr).n.2, right_reads hr⟩
structure TB (w : World) (p : Nat) (K M Bb q1 q2 : Int) (v1 v2 : Value) (l1 l2 : List St) (vb vo : Value) (body : List ByteArray) (wr : World) : Prop where
  G : GBx wr p K M Bb
  X : RBx wr (p + 1) q1 v1
  Y : RBx wr (p + 1 + 1) q2 v2
  R : SReads wr v1 l1
  S : SReads wr v2 l2
  T : Reads wr vb (body.map .string)
  U : Reads wr vo (body.map .string)
  B : Below p w wr
theorem TB.below {w : World} {p : Nat} {K M Bb q1 q2 : Int} {v1 v2 : Value} {l1 l2 : List St} {vb vo : Value} {body : List ByteArray} {wr w' : World} (h : TB w p K M Bb q1 q2 v1 v2 l1 l2 vb vo body wr) (b : Below wr.heap.size wr w') : TB w p K M Bb q1 q2 v1 v2 l1 l2 vb vo body w' :=
  ⟨h.G.below b h.G.lt, h.X.below b h.X.lt, h.Y.below b h.Y.lt, h.R.below b, h.S.below b, h.T.below b, h.U.below b, h.B.trans (b.mono (by have := h.G.lt; omega))⟩
theorem gbx_cls {w0 : World} {Z : Type} {f : Z → World} (hD : ∀ z, Below w0.heap.size w0 (f z)) {b : Nat} {K M B : Int} (h : GBx w0 b K M B) : (∀ z, (f z).cell? ⟨b, 0, none⟩ = some (.int .i64 K)) ∧ (∀ z, (f z).cell? ⟨b, 1, none⟩ = some (.int .i64 M)) ∧ ∀ z, (f z).cell? ⟨b, 2, none⟩ = some (.int .i64 B) :=
  ⟨fun z => ((hD z).cell (p := ⟨b, 0, none⟩) h.lt).trans h.c0, fun z => ((hD z).cell (p := ⟨b, 1, none⟩) h.lt).trans h.c1, fun z => ((hD z).cell (p := ⟨b, 2, none⟩) h.lt).trans h.c2⟩
set_option maxRecDepth 100000 in
set_option maxHeartbeats 6000000 in
theorem rtells_walk (K M Bb q1 q2 : Int) (u1 u2 : Value) (l1 l2 : List St) (h : ByteArray) (vb : Value) (body : List ByteArray) (w : World) (R1 : SReads w u1 l1) (R2 : SReads w u2 l2) (n1 : l1.length ≤ 140737488351232) (n2 : l2.length ≤ 140737488351232) (hs : h.size ≤ 140737488351232) (Rb : Reads w vb (body.map .string)) (nb : body.length ≤ 140737488351232) (hz : ∀ t ∈ body, t.size ≤ 140737488351232) :
    Calls Tryd.prog 3 #[.agg #[.int .i64 K, .int .i64 M, .int .i64 Bb], .agg #[.int .i64 q1, u1], .agg #[.int .i64 q2, u2], .string h, vb] w fun e w' => e = .returned (.bool true) ∧ Below w.heap.size w w' := by
  obtain ⟨p, hp⟩ : ∃ p, w.heap.size = p := ⟨_, rfl⟩
  have G0 := GBx.made w K M Bb 23
  have b0 : Below p w (w.alloc (.cells #[.int .i64 K, .int .i64 M, .int .i64 Bb] 23)) := (Below.refl _ _).alloc (by omega) _
  have z0 : (w.alloc (.cells #[.int .i64 K, .int .i64 M, .int .i64 Bb] 23)).heap.size = p + 1 := by simp [hp]
  rw [hp] at G0
  have X0 := RBx.made (w.alloc (.cells #[.int .i64 K, .int .i64 M, .int .i64 Bb] 23)) q1 u1 26
  have c0 : Below (p + 1) (w.alloc (.cells #[.int .i64 K, .int .i64 M, .int .i64 Bb] 23)) ((w.alloc (.cells #[.int .i64 K, .int .i64 M, .int .i64 Bb] 23)).alloc (.cells #[.int .i64 q1, u1] 26)) := (Below.refl _ _).alloc (by omega) _
  have z1 : ((w.alloc (.cells #[.int .i64 K, .int .i64 M, .int .i64 Bb] 23)).alloc (.cells #[.int .i64 q1, u1] 26)).heap.size = p + 1 + 1 := by simp [hp]
  rw [z0] at X0
  have Y0 := RBx.made ((w.alloc (.cells #[.int .i64 K, .int .i64 M, .int .i64 Bb] 23)).alloc (.cells #[.int .i64 q1, u1] 26)) q2 u2 26
  have d0 : Below (p + 1 + 1) ((w.alloc (.cells #[.int .i64 K, .int .i64 M, .int .i64 Bb] 23)).alloc (.cells #[.int .i64 q1, u1] 26)) (((w.alloc (.cells #[.int .i64 K, .int .i64 M, .int .i64 Bb] 23)).alloc (.cells #[.int .i64 q1, u1] 26)).alloc (.cells #[.int .i64 q2, u2] 26)) := (Below.refl _ _).alloc (by omega) _
  rw [z1] at Y0
  have G1 := (G0.below c0 (by omega)).below d0 (by omega)
  have X1 := X0.below d0 (by omega)
  have b1 := (b0.trans (c0.mono (by omega))).trans (d0.mono (by omega))
  obtain ⟨a1, k1, e1, _⟩ := id R1
  obtain ⟨a2, k2, e2, _⟩ := id R2
  obtain ⟨a3, k3, e3⟩ := Rb.isSlice
  rw [List.length_map] at e3
  subst e1 e2 e3
  go_enter Tryd.func3, Tryd.ntmps3
  go_upto_region 1 with (fail)
  clear G0 b0 c0 d0 X0 z0 z1
  generalize ((w.alloc (.cells #[.int .i64 K, .int .i64 M, .int .i64 Bb] 23)).alloc (.cells #[.int .i64 q1, .slice a1 l1.length k1] 26)).alloc (.cells #[.int .i64 q2, .slice a2 l2.length k2] 26) = wa at *
  replace hp := Lib.hid hp
  go_wp2_with (fail)
  refine (awake11_any _).mono ?_
  rintro e w1 ⟨rfl, b2⟩
  have G2 := G1.below b2 G1.lt
  have X2 := X1.below b2 X1.lt
  have Y2 := Y0.below b2 Y0.lt
  have B2 := b1.trans (b2.mono (by have := G1.lt; omega))
  have hB := Lib.hid B2
  have hpw : p < w1.heap.size := G2.lt
  clear G1 X1 Y0 b1 b2
  have f1 := X2.c1
  have f2 := Y2.c1
  by_cases h1 : l1.length > 40
  · have y1 : (l1.length : Int) > 40 := by omega
    go_wp2_with (fail)
    go_ret
    exact ⟨rfl, by rw [hp.out]; exact hB.out⟩
  · have y1 : ¬ (l1.length : Int) > 40 := by omega
    by_cases h2 : l2.length > 40
    · have y2 : (l2.length : Int) > 40 := by omega
      go_wp2_with (fail)
      go_ret
      exact ⟨rfl, by rw [hp.out]; exact hB.out⟩
    · have y2 : ¬ (l2.length : Int) > 40 := by omega
      by_cases h3 : body.length > 100
      · have y3 : (body.length : Int) > 100 := by omega
        go_wp2_with (fail)
        go_ret
        exact ⟨rfl, by rw [hp.out]; exact hB.out⟩
      · have y3 : ¬ (body.length : Int) > 100 := by omega
        have R1a := R1.below (by rw [hp.out]; exact B2)
        have R2a := R2.below (by rw [hp.out]; exact B2)
        have Rba := Rb.below (by rw [hp.out]; exact B2)
        obtain ⟨i0, hi, hz0, hz1, hz2⟩ := info_parts Tryd.infoT
        obtain ⟨vo, w2, hcp, o2, b3⟩ := Rba.copy_run (P := Tryd.prog) (T := 27) Tryd.underlying27 hi hz0 hz1 hz2 rfl (fun x hx => by obtain ⟨t, _, rfl⟩ := List.mem_map.1 hx; rfl) (by simp; omega) (by simp; omega)
        have hroom := o2.room
        obtain ⟨oa, oc, ev⟩ := o2.isSlice
        rw [List.length_map] at ev
        subst ev
        have G3 := G2.below b3 G2.lt
        have X3 := X2.below b3 X2.lt
        have Y3 := Y2.below b3 Y2.lt
        have R1b := R1a.below b3
        have R2b := R2a.below b3
        have Rbb := Rba.below b3
        have Ro := o2.reads
        have B3 := B2.trans (b3.mono (by omega))
        have hnn1 : l1.length ≤ 40 := by omega
        have hnn2 : l2.length ≤ 40 := by omega
        have hnn3 : body.length ≤ 100 := by omega
        clear R1 R2 Rb h1 h2 h3 R1a R2a Rba o2 hi hz0 hz1 hz2 i0 b3 G2 X2 Y2 B2
        have hz' : ∀ t ∈ body, t.size ≤ 140737488355328 := fun t ht => by have := hz t ht; omega
        have c1 := fun W (h : SReads W (.slice a1 l1.length k1) l1) => lay_any K M Bb q1 (.slice a1 l1.length k1) l1 W h n1
        have c2 := fun W (h : SReads W (.slice a1 l1.length k1) l1) => rlay_any K M Bb q1 (.slice a1 l1.length k1) l1 W h n1
        have c3 := fun W => head11_any K M Bb h W (by omega)
        have c4 := fun W => rhead11_any K M Bb h W (by omega)
        have c5 := fun W (hr : Reads W (.slice oa body.length oc) (body.map .string)) => take11_any K M Bb h (.slice oa body.length oc) body W (by omega) hr hz' nb hroom
        have c6 := fun W (hr : Reads W (.slice a3 body.length k3) (body.map .string)) => rtake11_any K M Bb h (.slice a3 body.length k3) body W (by omega) hr hz' nb
        unfold GivesL at c1 c2
        unfold GivesH at c3 c4
        unfold GivesTk at c5 c6
        rw [show (if rightB K M Bb q1 l1 then layS q1 l1 else ⟨#[]⟩) = layOf K M Bb q1 l1 from rfl, show (if rightB K M Bb q1 l1 then allT l1 else []) = bodyOf K M Bb q1 l1 from rfl] at c1 c2
        have hbl := bodyOf_len K M Bb q1 l1
        have d1 := fun W (h : SReads W (.slice a1 l1.length k1) l1) => right11_any K M Bb q1 (.slice a1 l1.length k1) l1 W h n1
        have d2 := fun W (h : SReads W (.slice a1 l1.length k1) l1) => rright11_any K M Bb q1 (.slice a1 l1.length k1) l1 W h (by omega)
        generalize layOf K M Bb q1 l1 = S at *
        generalize bodyOf K M Bb q1 l1 = BB at *
        have hzz := fun (m : List St) (hm : m.map pr = (if takeB K M Bb h body then takeL K h body else [])) => take_z hm
        generalize hE1 : (if rightB K M Bb q1 l1 then (0 : Int) else 110) = E1 at *
        generalize (if headB K M Bb h then hdQ h else 0) = E2 at *
        generalize (if headB K M Bb h then ((hdS h).length : Int) * K else 0) = E3 at *
        generalize (if headB K M Bb h then (0 : Int) else 110) = E4 at *
        generalize (if takeB K M Bb h body then hdQ h else 0) = E5 at *
        generalize (if takeB K M Bb h body then (0 : Int) else 110) = E6 at *
        generalize (if takeB K M Bb h body then takeL K h body else []) = LL at *
        clear hE1
        replace hzz := Lib.hid hzz
        have e0 := G3.c0
        have e1 := G3.c1
        have e2 := G3.c2
        have e3 := X3.c0
        have e4 := X3.c1
        go_wp2_with (at_builtin; refine wpList_append_run hcp _ _ rfl rfl rfl rfl rfl ?_)
        refine (c1 _ R1b).mono ?_
        rintro e w3 ⟨v1, rfl, o1, b4⟩
        have J0 : TB w p K M Bb q1 q2 (.slice a1 l1.length k1) (.slice a2 l2.length k2) l1 l2 (.slice a3 body.length k3) (.slice oa body.length oc) body w2 := ⟨G3, X3, Y3, R1b, R2b, Rbb, Ro, B3⟩
        have J3 := J0.below b4
        obtain ⟨sa1, sc1, ev⟩ := o1.isSlice
        rw [List.length_map] at ev
        subst ev
        clear J0 G3 X3 Y3 R1b R2b Rbb Ro B3 b4 e0 e1 e2 e3 e4 f1 f2 c1 hcp
        have e0 := J3.G.c0
        have e1 := J3.G.c1
        have e2 := J3.G.c2
        have e3 := J3.X.c0
        have e4 := J3.X.c1
        go_wp2_with (fail)
        refine (c2 _ J3.R).mono ?_
        rintro e w4 ⟨v2, rfl, o2, b5⟩
        have J4 := J3.below b5
        have P1 := (o1.after b5).reads
        obtain ⟨sa2, sc2, ev⟩ := o2.isSlice
        rw [List.length_map] at ev
        subst ev
        have P2 := o2.reads
        clear J3 o1 o2 b5 e0 e1 e2 e3 e4 c2
        have e0 := J4.G.c0
        have e1 := J4.G.c1
        have e2 := J4.G.c2
        go_wp2_with (fail)
        refine (c3 _).mono ?_
        rintro e w5 ⟨rfl, b6⟩
        have J5 := J4.below b6
        replace P1 := P1.below b6
        replace P2 := P2.below b6
        clear J4 b6 e0 e1 e2 c3
        have e0 := J5.G.c0
        have e1 := J5.G.c1
        have e2 := J5.G.c2
        go_wp2_with (fail)
        refine (c4 _).mono ?_
        rintro e w6 ⟨rfl, b7⟩
        have J6 := J5.below b7
        replace P1 := P1.below b7
        replace P2 := P2.below b7
        clear J5 b7 e0 e1 e2 c4
        have e0 := J6.G.c0
        have e1 := J6.G.c1
        have e2 := J6.G.c2
        go_wp2_with (fail)
        refine (c5 _ J6.U).mono ?_
        rintro e w7 ⟨vt, m1, rfl, ft, hm1, b8⟩
        obtain ⟨hk1, hd1⟩ := hzz.out m1 hm1
        have M1 := ft.reads hd1
        obtain ⟨ta, tc, ev⟩ := ft.o.isSlice
        subst ev
        have J7 := J6.below b8
        replace P1 := P1.below b8
        replace P2 := P2.below b8
        clear J6 b8 e0 e1 e2 c5 ft hd1
        obtain ⟨x, hx⟩ : ∃ x, w7.heap.size = x := ⟨_, rfl⟩
        have A8 := RBx.made w7 E5 (.slice ta m1.length tc) 26
        have bb : Below w7.heap.size w7 (w7.alloc (.cells #[.int .i64 E5, .slice ta m1.length tc] 26)) := (Below.refl _ _).alloc (Nat.le_refl _) _
        have J8 := J7.below bb
        replace P1 := P1.below bb
        replace P2 := P2.below bb
        replace M1 := M1.below bb
        rw [hx] at A8
        go_upto_region 10 with (fail)
        clear J7 bb hx
        generalize w7.alloc (.cells #[.int .i64 E5, .slice ta m1.length tc] 26) = w8 at *
        have e0 := J8.G.c0
        have e1 := J8.G.c1
        have e2 := J8.G.c2
        go_wp2_with (fail)
        refine (c6 _ J8.T).mono ?_
        rintro e w9 ⟨vu, m2, rfl, fu, hm2, b9⟩
        obtain ⟨hk2, hd2⟩ := hzz.out m2 hm2
        have M2 := fu.reads hd2
        obtain ⟨ua, uc, ev⟩ := fu.o.isSlice
        subst ev
        have hms : sameB E5 m1 E5 m2 = true := same_pr (by rw [hm1, hm2])
        have J9 := J8.below b9
        replace P1 := P1.below b9
        replace P2 := P2.below b9
        replace M1 := M1.below b9
        have A9 := A8.below b9 A8.lt
        clear J8 b9 e0 e1 e2 c6 fu hd2 hm1 hm2 hzz A8
        obtain ⟨y, hy⟩ : ∃ y, w9.heap.size = y := ⟨_, rfl⟩
        have C10 := RBx.made w9 E5 (.slice ua m2.length uc) 26
        have bb : Below w9.heap.size w9 (w9.alloc (.cells #[.int .i64 E5, .slice ua m2.length uc] 26)) := (Below.refl _ _).alloc (Nat.le_refl _) _
        have J10 := J9.below bb
        replace P1 := P1.below bb
        replace P2 := P2.below bb
        replace M1 := M1.below bb
        replace M2 := M2.below bb
        have A10 := A9.below bb A9.lt
        rw [hy] at C10
        go_upto_region 11 with (fail)
        clear J9 bb hy A9
        generalize w9.alloc (.cells #[.int .i64 E5, .slice ua m2.length uc] 26) = w10 at *
        have s1 := same02_any (.slice sa1 BB.length sc1) (.slice sa2 BB.length sc2) BB BB w10 P1 P2 hbl
        rw [decide_eq_true rfl] at s1
        have t1 : (S.toList == S.toList) = true := by simp
        have t2 : (E1 == E1) = true := by simp
        have t3 : (E2 == E2) = true := by simp
        have t4 : (E3 == E3) = true := by simp
        have t5 : (E4 == E4) = true := by simp
        have t6 : (E6 == E6) = true := by simp
        go_wp2_with (fail)
        refine s1.mono ?_
        rintro e w11 ⟨rfl, b11⟩
        have J11 := J10.below b11
        replace M1 := M1.below b11
        replace M2 := M2.below b11
        have A11 := A10.below b11 A10.lt
        have C11 := C10.below b11 C10.lt
        clear J10 b11 A10 C10 P1 P2 s1
        have hB11 := J11.B
        have hG11 := J11.G.lt
        have g1 : ∀ W, Below w11.heap.size w11 W → Calls Tryd.prog 17 #[.agg #[.int .i64 K, .int .i64 M, .int .i64 Bb], .agg #[.int .i64 q1, .slice a1 l1.length k1]] W (Tells W (.bool (rightB K M Bb q1 l1))) := fun W hW => d1 W (J11.R.below hW)
        have g2 : ∀ W, Below w11.heap.size w11 W → Calls Tryd.prog 18 #[.agg #[.int .i64 K, .int .i64 M, .int .i64 Bb], .agg #[.int .i64 q1, .slice a1 l1.length k1]] W (Tells W (.bool (rightB K M Bb q1 l1))) := fun W hW => d2 W (J11.R.below hW)
        have g3 : ∀ W, Below w11.heap.size w11 W → Calls Tryd.prog 19 #[.agg #[.int .i64 q1, .slice a1 l1.length k1], .agg #[.int .i64 q2, .slice a2 l2.length k2]] W (Tells W (.bool (sameB q1 l1 q2 l2))) := fun W hW => same11_any q1 q2 _ _ l1 l2 W (J11.R.below hW) (J11.S.below hW) (by omega)
        have g4 : ∀ W, Below w11.heap.size w11 W → Calls Tryd.prog 20 #[.agg #[.int .i64 q1, .slice a1 l1.length k1], .agg #[.int .i64 q2, .slice a2 l2.length k2]] W (Tells W (.bool (sameB q1 l1 q2 l2))) := fun W hW => rsame11_any q1 q2 _ _ l1 l2 W (J11.R.below hW) (J11.S.below hW) (by omega)
        have g5 : ∀ W, Below w11.heap.size w11 W → Calls Tryd.prog 20 #[.agg #[.int .i64 E5, .slice ta m1.length tc], .agg #[.int .i64 E5, .slice ua m2.length uc]] W (Tells W (.bool true)) := fun W hW => hms ▸ rsame11_any E5 E5 _ _ m1 m2 W (M1.below hW) (M2.below hW) (by omega)
        have g6 : ∀ W, Below w11.heap.size w11 W → Calls Tryd.prog 16 #[.slice oa body.length oc, .slice a3 body.length k3] W (Tells W (.bool true)) := fun W hW => (decide_eq_true (rfl : body = body)) ▸ same02_any _ _ body body W (J11.U.below hW) (J11.T.below hW) (by omega)
        unfold Tells at g1 g2 g3 g4 g5 g6
        obtain ⟨x1, x2, x3⟩ : True ∧ True ∧ True := ⟨trivial, trivial, trivial⟩
        generalize rightB K M Bb q1 l1 = RR at *
        generalize sameB q1 l1 q2 l2 = DD at *
        have t7 : (RR == RR) = true := by cases RR <;> rfl
        have t8 : (DD == DD) = true := by cases DD <;> rfl
        have XX := J11.X
        have YY := J11.Y
        have GG := J11.G
        clear J11 M1 M2 d1 d2 hms
        go_wp2_with (fail)
        refine wp_region_cls (Below w11.heap.size w11) (by kernel_rfl) (by kernel_rfl) (Below.refl _ _).drew ?_
        intro Z f hne hD hE
        obtain ⟨i0, i1, i2⟩ := gbx_cls hD GG
        obtain ⟨i3, i4⟩ := XX.cls hD
        obtain ⟨i5, i6⟩ := YY.cls hD
        obtain ⟨i7, i8⟩ := A11.cls hD
        obtain ⟨i9, i10⟩ := C11.cls hD
        clear GG XX YY A11 C11
        iterate 38 (go_big_quiet_step (first | (go_at_call 17; with_reducible exact toQB hD hE _ (g1 _ (hD _))) | (go_at_call 18; with_reducible exact toQB hD hE _ (g2 _ (hD _))) | (go_at_call 19; with_reducible exact toQB hD hE _ (g3 _ (hD _))) | (go_at_call 20; first | with_reducible exact toQB hD hE _ (g4 _ (hD _)) | with_reducible exact toQB hD hE _ (g5 _ (hD _))) | (go_at_call 16; with_reducible exact toQB hD hE _ (g6 _ (hD _)))))
        refine wpQuiet_nil ?_
        intro _ hw'
        obtain ⟨zq, hw''⟩ := hw'
        subst hw''
        have B12 := hB11.trans ((hD zq).mono (by omega))
        clear hE i0 i1 i2 i3 i4 i5 i6 i7 i8 i9 i10
        go_wp2_with (fail)
        go_ret
        exact ⟨rfl, by rw [hp.out]; exact B12⟩
end Go.Proofs.YtdbjfofnkijmoaaDoor
