/- command: Reply and Told; Put; the document's own Right and Put. -/
import Derived.Test.YtjbekphjhmlloaaDoorCmdWalk1
namespace Go.Proofs.YtjbekphjhmlloaaDoor
open Go.RowKit
set_option linter.unusedVariables false
set_option linter.unusedSimpArgs false

def clE (e : Int) : Int := if e < 0 ∨ 65535 < e then 65535 else e
def replyL (e : Int) (d : ByteArray) : ByteArray := numL (clE e) 2 ++ d
theorem numL2_size (n : Int) : (numL n 2).size ≤ 7 := numL_size n 2 (by decide)
theorem reply_any (e : Int) (d : ByteArray) (w : World) (hd : d.size ≤ 140737488351232) : Calls Tryd.prog 17 #[.int .i64 e, .string d] w (SaysS w (replyL e d)) := by
  have hn := fun w => number_any (clE e) 2 w
  have hz := numL2_size (clE e)
  have he : Hid (replyL e d = numL (clE e) 2 ++ d) := Lib.hid rfl
  generalize numL (clE e) 2 = t at *
  by_cases h1 : e < 0
  · have t1 : decide (e < 0) = true := decide_eq_true h1
    rw [show clE e = 65535 from if_pos (.inl h1)] at hn
    clear h1
    go_enter Tryd.func17, Tryd.ntmps17
    go_wp2_with (fail)
    refine (hn _).mono ?_
    rintro e w1 ⟨rfl, hb⟩
    go_wp2_with (fail)
    go_ret
    exact ⟨by rw [he.out]; rfl, hb⟩
  · have t1 : decide (e < 0) = false := decide_eq_false h1
    by_cases h2 : 65535 < e
    · have t2 : decide (65535 < e) = true := decide_eq_true h2
      rw [show clE e = 65535 from if_pos (.inr h2)] at hn
      clear h1 h2
      go_enter Tryd.func17, Tryd.ntmps17
      go_wp2_with (fail)
      refine (hn _).mono ?_
      rintro e w1 ⟨rfl, hb⟩
      go_wp2_with (fail)
      go_ret
      exact ⟨by rw [he.out]; rfl, hb⟩
    · have t2 : decide (65535 < e) = false := decide_eq_false h2
      rw [show clE e = e from if_neg (by omega)] at hn
      clear h1 h2
      go_enter Tryd.func17, Tryd.ntmps17
      go_wp2_with (fail)
      refine (hn _).mono ?_
      rintro e w1 ⟨rfl, hb⟩
      go_wp2_with (fail)
      go_ret
      exact ⟨by rw [he.out]; rfl, hb⟩
theorem rreply_any (e : Int) (d : ByteArray) (w : World) (hd : d.size ≤ 140737488351232) : Calls Tryd.prog 18 #[.int .i64 e, .string d] w (SaysS w (replyL e d)) := by
  have hn := fun w => rnum_says (clE e) 2 w
  have hz := numL2_size (clE e)
  have he : Hid (replyL e d = numL (clE e) 2 ++ d) := Lib.hid rfl
  generalize numL (clE e) 2 = t at *
  by_cases h1 : e < 0
  · have t1 : decide (e < 0) = true := decide_eq_true h1
    rw [show clE e = 65535 from if_pos (.inl h1)] at hn
    clear h1
    go_enter Tryd.func18, Tryd.ntmps18
    go_wp2_with (fail)
    refine (hn _).mono ?_
    rintro e w1 ⟨rfl, hb⟩
    go_wp2_with (fail)
    go_ret
    exact ⟨by rw [he.out]; rfl, hb⟩
  · have t1 : decide (e < 0) = false := decide_eq_false h1
    by_cases h2 : 65535 < e
    · have t2 : decide (65535 < e) = true := decide_eq_true h2
      rw [show clE e = 65535 from if_pos (.inr h2)] at hn
      clear h1 h2
      go_enter Tryd.func18, Tryd.ntmps18
      go_wp2_with (fail)
      refine (hn _).mono ?_
      rintro e w1 ⟨rfl, hb⟩
      go_wp2_with (fail)
      go_ret
      exact ⟨by rw [he.out]; rfl, hb⟩
    · have t2 : decide (65535 < e) = false := decide_eq_false h2
      rw [show clE e = e from if_neg (by omega)] at hn
      clear h1 h2
      go_enter Tryd.func18, Tryd.ntmps18
      go_wp2_with (fail)
      refine (hn _).mono ?_
      rintro e w1 ⟨rfl, hb⟩
      go_wp2_with (fail)
      go_ret
      exact ⟨by rw [he.out]; rfl, hb⟩

theorem encF_size (x : Cmd) (h1 : x.n.size ≤ 20) (h2 : x.o.size ≤ 20) (h3 : x.d.size ≤ 600) (f : Nat) : (encF x f).size ≤ 607 := by
  have a1 := encT_size x.n 1 (by decide)
  have a2 := encT_size x.o 1 (by decide)
  have a3 := numL_size x.a 6 (by decide)
  have a4 := numL_size x.c 6 (by decide)
  have a5 := encT_size x.d 2 (by decide)
  rw [show ((6 : Nat) : Int) = 6 from rfl] at a3 a4
  unfold encF
  split
  · omega
  split
  · omega
  split
  · omega
  split
  · omega
  split
  · omega
  exact Nat.zero_le _
theorem enc_size (x : Cmd) (h1 : x.n.size ≤ 20) (h2 : x.o.size ≤ 20) (h3 : x.d.size ≤ 600) (r : List Nat) : (encR x r).size ≤ 7 + 607 * r.length := by
  have key : ∀ (r : List Nat) (s : ByteArray), (r.foldl (fun s f => s ++ encF x f) s).size ≤ s.size + 607 * r.length := by
    intro r
    induction r with
    | nil => intro s; simp
    | cons f r ih =>
      intro s
      have := ih (s ++ encF x f)
      have hf := encF_size x h1 h2 h3 f
      rw [ByteArray.size_append] at this
      rw [List.foldl_cons, List.length_cons]; omega
  have a := key r (numL x.op 1)
  have b := numL_size x.op 1 (by decide)
  rw [show ((1 : Nat) : Int) = 1 from rfl] at b
  unfold encR; omega
set_option maxRecDepth 100000 in
set_option maxHeartbeats 4000000 in
theorem cput_any (x : Cmd) (w : World) (hF : Flds w) (hs : x.n.size ≤ 140737488351232 ∧ x.o.size ≤ 140737488351232 ∧ x.d.size ≤ 140737488351232) : Calls Tryd.prog 9 #[x.v] w (Tells2 w (putL x) (putE x)) := by
  have cr := fun w h => cright_any x w h
  cases hr : rightB x with
  | false =>
    rw [hr] at cr
    have hz : Hid (putL x = ⟨#[]⟩ ∧ putE x = 200) := Lib.hid (by rw [putL, putE, hr]; exact ⟨rfl, rfl⟩)
    clear hr
    unfold Cmd.v at *
    have hFb := hF.below ((Below.refl w.heap.size w).alloc (Nat.le_refl _) (.cells #[.int .i64 x.op, .string x.n, .string x.o, .int .i64 x.a, .int .i64 x.c, .string x.d] 23))
    go_enter Tryd.func9, Tryd.ntmps9
    go_wp2_with (fail)
    refine (cr _ hFb).mono ?_
    rintro e w1 ⟨rfl, hb⟩
    go_wp2_with (fail)
    go_ret2
    exact ⟨by rw [hz.out.1, hz.out.2]; rfl, below_d ((Below.refl _ _).alloc (Nat.le_refl _) _) hb⟩
  | true =>
    rw [hr] at cr
    have hz : Hid (putL x = encR x x.row ∧ putE x = 0) := Lib.hid (by rw [putL, putE, hr]; exact ⟨rfl, rfl⟩)
    obtain ⟨⟨l1, l9⟩, l2, l3, l4, l5, l6⟩ := (limB_iff x).1 (by unfold rightB at hr; rw [Bool.and_eq_true] at hr; exact hr.1)
    clear hr hs
    have ct1 : ∀ w, Calls Tryd.prog 22 #[.string x.n, .int .i64 1] w (SaysS w (encT x.n 1)) := fun w => text_any x.n 1 w (by decide) (by omega)
    have ct2 : ∀ w, Calls Tryd.prog 22 #[.string x.o, .int .i64 1] w (SaysS w (encT x.o 1)) := fun w => text_any x.o 1 w (by decide) (by omega)
    have ct3 := fun w => number_any x.a 6 w
    have ct4 := fun w => number_any x.c 6 w
    have ct5 : ∀ w, Calls Tryd.prog 22 #[.string x.d, .int .i64 2] w (SaysS w (encT x.d 2)) := fun w => text_any x.d 2 w (by decide) (by omega)
    have ct0 := fun w => number_any x.op 1 w
    obtain ⟨i, hi⟩ := Int.eq_ofNat_of_zero_le (show 0 ≤ x.op by omega)
    have sz : ∀ r, (encR x r).size ≤ 7 + 607 * r.length := enc_size x (by omega) (by omega) (by omega)
    have hrow : Hid (x.row = rowOf i) := Lib.hid (by rw [Cmd.row, hi]; rfl)
    rw [hi] at ct0 l1 l9
    obtain ⟨f0, f1, f2, hr, hx0, hy0, hz0⟩ := row_form i
    have hidx : ∀ k : Nat, k < 3 → ∀ W, (Instr.index 42 (.agg #[.int .i64 (f0 : Int), .int .i64 (f1 : Int), .int .i64 (f2 : Int)]) (.int .i64 (k : Int))).run Tryd.prog W = .ok (.int .i64 (((rowOf i).getD k 0 : Nat) : Int)) W := by
      intro k hk W
      rw [hr]
      rcases (by omega : k = 0 ∨ k = 1 ∨ k = 2) with rfl | rfl | rfl <;> kernel_rfl
    have hn := row_nth i
    have he0 : Hid (numL (i : Int) 1 = encR x []) := Lib.hid (by rw [encR, hi]; rfl)
    have hfld : ∀ (W : World), Flds W → W.cell? ⟨0, i * 3, none⟩ = some (.int .i64 (f0 : Int)) ∧ W.cell? ⟨0, i * 3 + 1, none⟩ = some (.int .i64 (f1 : Int)) ∧ W.cell? ⟨0, i * 3 + 2, none⟩ = some (.int .i64 (f2 : Int)) := by
      intro W hW
      have c0 := hW.c i 0 (by omega) (by omega)
      have c1 := hW.c i 1 (by omega) (by omega)
      have c2 := hW.c i 2 (by omega) (by omega)
      rw [hr] at c0 c1 c2
      exact ⟨c0, c1, c2⟩
    clear hr
    unfold Cmd.v at *
    rw [hi]
    rw [hi] at cr
    have hbox := (Below.refl w.heap.size w).alloc (Nat.le_refl _) (.cells #[.int .i64 (i : Int), .string x.n, .string x.o, .int .i64 x.a, .int .i64 x.c, .string x.d] 23)
    have hFb := hF.below hbox
    have q1 : ∀ W, Below (w.heap.size + 1) (w.alloc (.cells #[.int .i64 (i : Int), .string x.n, .string x.o, .int .i64 x.a, .int .i64 x.c, .string x.d] 23)) W → W.cell? ⟨w.heap.size, 0, none⟩ = some (.int .i64 (i : Int)) ∧ W.cell? ⟨w.heap.size, 1, none⟩ = some (.string x.n) ∧ W.cell? ⟨w.heap.size, 2, none⟩ = some (.string x.o) ∧ W.cell? ⟨w.heap.size, 3, none⟩ = some (.int .i64 x.a) ∧ W.cell? ⟨w.heap.size, 4, none⟩ = some (.int .i64 x.c) ∧ W.cell? ⟨w.heap.size, 5, none⟩ = some (.string x.d) := by
      intro W hW
      refine ⟨?_, ?_, ?_, ?_, ?_, ?_⟩ <;> (rw [hW.cell (by show w.heap.size < _; omega)]; simp)
    clear hi
    go_enter Tryd.func9, Tryd.ntmps9
    go_wp2_with (fail)
    refine (cr _ hFb).mono ?_
    rintro e w1 ⟨rfl, hb⟩
    obtain ⟨wb, hwb⟩ : ∃ W, w.alloc (.cells #[.int .i64 (i : Int), .string x.n, .string x.o, .int .i64 x.a, .int .i64 x.c, .string x.d] 23) = W := ⟨_, rfl⟩
    have hsz : wb.heap.size = w.heap.size + 1 := by rw [← hwb]; simp
    rw [hwb] at hb hbox hFb q1
    rw [hsz] at hb
    clear hwb cr
    obtain ⟨a0, a1, a2, a3, a4, a5⟩ := q1 w1 hb
    go_wp2_with (fail)
    refine (ct0 _).mono ?_
    rintro e w2 ⟨rfl, hb2⟩
    have hB2 : Below (w.heap.size + 1) wb w2 := hb.trans (hb2.mono (by have := hb.size; omega))
    obtain ⟨a0, a1, a2, a3, a4, a5⟩ := q1 w2 hB2
    obtain ⟨c0, c1, c2⟩ := hfld w2 (hFb.keep hB2 (by have := hF.lt; omega))
    rw [he0.out]
    go_wp2_with (fail)
    clear a0 a1 a2 a3 a4 a5 c0 c1 c2
    go_loopw [4, 17] (fun s t wr => ∃ k : Nat, k ≤ 3 ∧ t = .int .i64 (k : Int) ∧ s = .string (encR x ((rowOf i).take k)) ∧ Below (w.heap.size + 1) wb wr) (fun _ t _ => 3 - (intOf t).toNat)
    case atStart => exact ⟨0, by omega, rfl, rfl, hB2⟩
    case round =>
      obtain ⟨k, hk, rfl, rfl, hB⟩ := hrel
      obtain ⟨b0, b1, b2, b3, b4, b5⟩ := q1 _ hB
      have hBs := hB.size
      by_cases hk3 : k < 3
      · have t3 : (k : Int) < 3 := by omega
        have hix := hidx k hk3
        have hf := (hn k hk3).1
        have HS := (hn k hk3).2
        have zz := sz ((rowOf i).take k)
        rw [List.length_take] at zz
        have HE : Hid (encR x ((rowOf i).take (k + 1)) = encR x ((rowOf i).take k) ++ encF x ((rowOf i).getD k 0)) := Lib.hid (by rw [HS, encR, List.foldl_append]; rfl)
        have zS : (encR x ((rowOf i).take k)).size ≤ 2000 := by omega
        clear HS hidx hn zz hk3 sz q1 hfld
        generalize (rowOf i).getD k 0 = f at *
        generalize encR x ((rowOf i).take k) = S at *
        rcases (by omega : f = 0 ∨ f = 1 ∨ f = 2 ∨ f = 3 ∨ f = 4 ∨ f = 5) with rfl | rfl | rfl | rfl | rfl | rfl
        · rw [show encF x 0 = ⟨#[]⟩ from rfl, Rm.app_nil] at HE
          go_wp2_with (fail)
          go_roundw
          case rel => exact ⟨k + 1, by omega, by go_num, by rw [HE.out], hB⟩
          case measure => simp [intOf]; omega
        · rw [show encF x 1 = encT x.n 1 from rfl] at HE
          have zt : (encT x.n 1).size ≤ 607 := by have h : (encT x.n 1).size ≤ 7 + x.n.size := encT_size x.n 1 (by decide); omega
          generalize encT x.n 1 = T at *
          go_wp2_with (fail)
          refine (ct1 _).mono ?_
          rintro e w3 ⟨rfl, hb3⟩
          have hB3 := hB.trans (hb3.mono (by omega))
          go_wp2_with (fail)
          go_roundw
          case rel => exact ⟨k + 1, by omega, by go_num, by rw [HE.out], hB3⟩
          case measure => simp [intOf]; omega
        · rw [show encF x 2 = encT x.o 1 from rfl] at HE
          have zt : (encT x.o 1).size ≤ 607 := by have h : (encT x.o 1).size ≤ 7 + x.o.size := encT_size x.o 1 (by decide); omega
          generalize encT x.o 1 = T at *
          go_wp2_with (fail)
          refine (ct2 _).mono ?_
          rintro e w3 ⟨rfl, hb3⟩
          have hB3 := hB.trans (hb3.mono (by omega))
          go_wp2_with (fail)
          go_roundw
          case rel => exact ⟨k + 1, by omega, by go_num, by rw [HE.out], hB3⟩
          case measure => simp [intOf]; omega
        · rw [show encF x 3 = numL x.a 6 from rfl] at HE
          have zt : (numL x.a 6).size ≤ 607 := by have h : (numL x.a 6).size ≤ 7 := numL_size x.a 6 (by decide); omega
          generalize numL x.a 6 = T at *
          go_wp2_with (fail)
          refine (ct3 _).mono ?_
          rintro e w3 ⟨rfl, hb3⟩
          have hB3 := hB.trans (hb3.mono (by omega))
          go_wp2_with (fail)
          go_roundw
          case rel => exact ⟨k + 1, by omega, by go_num, by rw [HE.out], hB3⟩
          case measure => simp [intOf]; omega
        · rw [show encF x 4 = numL x.c 6 from rfl] at HE
          have zt : (numL x.c 6).size ≤ 607 := by have h : (numL x.c 6).size ≤ 7 := numL_size x.c 6 (by decide); omega
          generalize numL x.c 6 = T at *
          go_wp2_with (fail)
          refine (ct4 _).mono ?_
          rintro e w3 ⟨rfl, hb3⟩
          have hB3 := hB.trans (hb3.mono (by omega))
          go_wp2_with (fail)
          go_roundw
          case rel => exact ⟨k + 1, by omega, by go_num, by rw [HE.out], hB3⟩
          case measure => simp [intOf]; omega
        · rw [show encF x 5 = encT x.d 2 from rfl] at HE
          have zt : (encT x.d 2).size ≤ 607 := by have h : (encT x.d 2).size ≤ 7 + x.d.size := encT_size x.d 2 (by decide); omega
          generalize encT x.d 2 = T at *
          go_wp2_with (fail)
          refine (ct5 _).mono ?_
          rintro e w3 ⟨rfl, hb3⟩
          have hB3 := hB.trans (hb3.mono (by omega))
          go_wp2_with (fail)
          go_roundw
          case rel => exact ⟨k + 1, by omega, by go_num, by rw [HE.out], hB3⟩
          case measure => simp [intOf]; omega
      · obtain rfl : k = 3 := by omega
        have hl : (rowOf i).take 3 = rowOf i := by obtain ⟨x, y, z, h, _⟩ := row_form i; rw [h]; rfl
        rw [hl, ← hrow.out]
        clear hl hidx hn
        go_wp2_with (fail)
        go_ret2
        exact ⟨by rw [hz.out.1, hz.out.2]; rfl, hbox.trans (hB.mono (by omega))⟩
def tldB (s : ByteArray) : Bool := decide (2 ≤ s.size)
def tldE (s : ByteArray) : Int := if tldB s then ((numV s false 2 : Nat) : Int) else 0
def tldD (s : ByteArray) : ByteArray := if tldB s then s.extract 2 s.size else ⟨#[]⟩
def Tells3 (w : World) (s : ByteArray) (e : Ending) (w' : World) : Prop := e = .returned (.tuple #[.int .i64 (tldE s), .string (tldD s), .bool (tldB s)]) ∧ Below w.heap.size w w'
theorem okN2 (s : ByteArray) : okN s false 2 = tldB s := by unfold okN tldB; rw [Bool.not_false, Bool.true_and, decide_eq_decide]; omega
set_option maxRecDepth 100000 in
set_option maxHeartbeats 4000000 in
theorem told_any (s : ByteArray) (w : World) (hs : s.size ≤ 140737488355328) : Calls Tryd.prog 13 #[.string s] w (Tells3 w s) := by
  have hbw : Below w.heap.size w (w.alloc (.cells #[.string s, .bool false] 58)) := (Below.refl _ _).alloc (Nat.le_refl _) _
  have r0 := RdAt.made w s 58
  have c1 := fun W h => rdnum_any w.heap.size s false 2 W h (by omega)
  rw [okN2] at c1
  cases hb : tldB s with
  | false =>
    have hz : Hid (tldE s = 0 ∧ tldD s = ⟨#[]⟩ ∧ tldB s = false) := Lib.hid (by rw [tldE, tldD, hb]; exact ⟨rfl, rfl, rfl⟩)
    rw [hb] at c1
    clear hb
    generalize numR s false 2 = t at *
    go_enter Tryd.func13, Tryd.ntmps13
    go_wp2_with (fail)
    refine (new_any s _).mono ?_
    rintro e w0 ⟨rfl, hw0⟩
    rw [← hw0] at hbw r0
    clear hw0
    go_wp2_with (fail)
    refine (c1 _ r0).mono ?_
    rintro e w1 ⟨rfl, r1⟩
    have hB := hbw.trans (r1.below (Nat.le_refl _) hbw.size)
    go_wp2_with (fail)
    refine (bad_any _ _ _ _ r1.r).mono ?_
    rintro e wq ⟨rfl, rfl⟩
    go_wp2_with (fail)
    go_ret3
    exact ⟨by rw [hz.out.1, hz.out.2.1, hz.out.2.2]; rfl, hB⟩
  | true =>
    have hN : numR s false 2 = s.extract 2 s.size := by rw [numR, okN2, hb]; rfl
    have hz : Hid (tldE s = ((numV s false 2 : Nat) : Int) ∧ tldD s = s.extract 2 s.size ∧ tldB s = true) := Lib.hid (by rw [tldE, tldD, hb]; exact ⟨rfl, rfl, rfl⟩)
    rw [hb, hN] at c1
    clear hb hN
    have ht : (s.extract 2 s.size).size ≤ s.size := by rw [ByteArray.size_extract]; omega
    generalize s.extract 2 s.size = t at *
    have g := Rm.txt_laid t ⟨#[]⟩
    rw [Rm.app_nil] at g
    have c2 := fun W h => rdtext_any w.heap.size t false (t.size : Int) W h (by omega)
    rw [g.1, g.2.1, g.2.2] at c2
    clear g
    go_enter Tryd.func13, Tryd.ntmps13
    go_wp2_with (fail)
    refine (new_any s _).mono ?_
    rintro e w0 ⟨rfl, hw0⟩
    rw [← hw0] at hbw r0
    clear hw0
    go_wp2_with (fail)
    refine (c1 _ r0).mono ?_
    rintro e w1 ⟨rfl, r1⟩
    have hB := hbw.trans (r1.below (Nat.le_refl _) hbw.size)
    go_wp2_with (fail)
    refine (bad_any _ _ _ _ r1.r).mono ?_
    rintro e wq ⟨rfl, rfl⟩
    go_wp2_with (fail)
    refine (left_any _ _ _ _ r1.r).mono ?_
    rintro e wq ⟨rfl, rfl⟩
    go_wp2_with (fail)
    refine (c2 _ r1.r).mono ?_
    rintro e w2 ⟨rfl, r2⟩
    have hB2 := hB.trans (r2.below (Nat.le_refl _) hB.size)
    go_wp2_with (fail)
    go_ret3
    exact ⟨by rw [hz.out.1, hz.out.2.1, hz.out.2.2]; rfl, hB2⟩
theorem val2 (s : ByteArray) (h : 2 ≤ s.size) : ((numV s false 2 : Nat) : Int) = 256 * ((s[0].toNat : Nat) : Int) + ((s[1].toNat : Nat) : Int) := by
  have hb : okN s false 2 = true := by rw [okN2]; exact decide_eq_true h
  have hl : s.data.toList.length = s.size := (Rm.size_list s).symm
  have e : (s.extract 0 2).data.toList = [s[0], s[1]] := by
    rw [Rm.ext_list, List.drop_zero]
    apply List.ext_getElem
    · simp; omega
    · intro j h1 h2
      simp at h2
      rcases (by omega : j = 0 ∨ j = 1) with rfl | rfl <;> simp [ByteArray.getElem_eq_getElem_data]
  rw [numV, if_pos hb, show (2 : Int).toNat = 2 from rfl, e]
  simp [Pk.val]
set_option maxRecDepth 100000 in
set_option maxHeartbeats 4000000 in
theorem rtold_any (s : ByteArray) (w : World) (hs : s.size ≤ 140737488355328) : Calls Tryd.prog 14 #[.string s] w (Tells3 w s) := by
  by_cases h : 2 ≤ s.size
  · have hb : tldB s = true := decide_eq_true h
    have hv := val2 s h
    have hz : Hid (tldE s = 256 * ((s[0].toNat : Nat) : Int) + ((s[1].toNat : Nat) : Int) ∧ tldD s = s.extract 2 s.size ∧ tldB s = true) := Lib.hid (by rw [tldE, tldD, hb, ← hv]; exact ⟨rfl, rfl, rfl⟩)
    have hf := fun W => from_run (P := Tryd.prog) (T := 9) Tryd.underlying9 s 2 h W
    have t0 : decide ((s.size : Int) < 2) = false := by rw [decide_eq_false_iff_not]; omega
    have p0 : (0 : Int) < (s.size : Int) := by omega
    have p1 : (1 : Int) < (s.size : Int) := by omega
    have p0' : 0 < s.size := by omega
    have p1' : 1 < s.size := by omega
    have b0 : s[0].toNat < 256 := UInt8.toNat_lt _
    have b1 : s[1].toNat < 256 := UInt8.toNat_lt _
    have w1 : IntKind.i64.wrap ((s[0].toNat : Nat) : Int) = ((s[0].toNat : Nat) : Int) := IntWalk.i64_in _ ⟨by omega, by omega⟩
    have w2 : IntKind.i64.wrap ((s[1].toNat : Nat) : Int) = ((s[1].toNat : Nat) : Int) := IntWalk.i64_in _ ⟨by omega, by omega⟩
    have w3 : IntKind.i64.wrap (256 * ((s[0].toNat : Nat) : Int)) = 256 * ((s[0].toNat : Nat) : Int) := IntWalk.i64_in _ ⟨by omega, by omega⟩
    have w4 : IntKind.i64.wrap (256 * ((s[0].toNat : Nat) : Int) + ((s[1].toNat : Nat) : Int)) = 256 * ((s[0].toNat : Nat) : Int) + ((s[1].toNat : Nat) : Int) := IntWalk.i64_in _ ⟨by omega, by omega⟩
    clear hb hv
    go_enter Tryd.func14, Tryd.ntmps14
    go_wp2
    go_quiet (fail)
    go_wp2
    go_ret3
    exact ⟨by rw [hz.out.1, hz.out.2.1, hz.out.2.2]; rfl, drew_below _ _⟩
  · have hb : tldB s = false := decide_eq_false h
    have hz : Hid (tldE s = 0 ∧ tldD s = ⟨#[]⟩ ∧ tldB s = false) := Lib.hid (by rw [tldE, tldD, hb]; exact ⟨rfl, rfl, rfl⟩)
    have t0 : decide ((s.size : Int) < 2) = true := by rw [decide_eq_true_eq]; omega
    clear hb h
    go_enter Tryd.func14, Tryd.ntmps14
    go_wp2
    go_ret3
    exact ⟨by rw [hz.out.1, hz.out.2.1, hz.out.2.2]; rfl, Below.refl _ _⟩
end Go.Proofs.YtjbekphjhmlloaaDoor
