/- command: the document's own Put; Get and the document's own Get. -/
import Derived.Test.YtjbekphjhmlloaaDoorCmdWalk3
namespace Go.Proofs.YtjbekphjhmlloaaDoor
open Go.RowKit
set_option linter.unusedVariables false
set_option linter.unusedSimpArgs false

def fls (i : Nat) : List Nat := (rowOf i).filter fun f => decide (f ≠ 0)
def letC (f : Nat) : Int := if f = 1 then 110 else if f = 2 then 111 else if f = 3 then 97 else if f = 4 then 99 else 100
theorem fls_le (i : Nat) : (fls i).length ≤ 3 := by
  obtain ⟨x, y, z, h, _⟩ := row_form i
  unfold fls; rw [h]; exact List.length_filter_le _ _
theorem let_size (i : Nat) : (letS i).size = (fls i).length := by
  unfold letS fls rowOf
  by_cases h : 1 ≤ i ∧ i ≤ 7
  · rcases (by omega : i = 1 ∨ i = 2 ∨ i = 3 ∨ i = 4 ∨ i = 5 ∨ i = 6 ∨ i = 7) with rfl | rfl | rfl | rfl | rfl | rfl | rfl <;> rfl
  · split <;> (try omega)
    split <;> first | rfl | omega
theorem str_idx (s : ByteArray) (k : Nat) (hk : k < s.size) (W : World) : (Instr.index 9 (.string s) (.int .i64 (k : Int))).run Tryd.prog W = .ok (.int .u8 ((s[k].toNat : Nat) : Int)) W := by
  simp [Instr.index, run_underlying Tryd.underlying9, asIntOf, hk]
theorem let_idx (i k : Nat) (hk : k < (fls i).length) (W : World) : (Instr.index 9 (.string (letS i)) (.int .i64 (k : Int))).run Tryd.prog W = .ok (.int .u8 (letC ((fls i).getD k 0))) W := by
  have hz : k < (letS i).size := by rw [let_size]; exact hk
  rw [str_idx _ k hz]
  refine congrArg (fun n => Result.ok (Value.int .u8 n) W) ?_
  by_cases h : 1 ≤ i ∧ i ≤ 7
  · have h3 : k < 3 := Nat.lt_of_lt_of_le hk (fls_le i)
    rcases (by omega : i = 1 ∨ i = 2 ∨ i = 3 ∨ i = 4 ∨ i = 5 ∨ i = 6 ∨ i = 7) with rfl | rfl | rfl | rfl | rfl | rfl | rfl
    all_goals
      rcases (by omega : k = 0 ∨ k = 1 ∨ k = 2) with rfl | rfl | rfl
      all_goals first | rfl | (exact absurd hk (by decide))
  · have : fls i = [] := by
      unfold fls rowOf; split <;> first | rfl | omega
    rw [this] at hk; cases hk
theorem fls_nth (i k : Nat) (hk : k < (fls i).length) : (1 ≤ (fls i).getD k 0 ∧ (fls i).getD k 0 ≤ 5) ∧ (fls i).take (k + 1) = (fls i).take k ++ [(fls i).getD k 0] := by
  have e : (fls i).getD k 0 = (fls i)[k] := by simp [List.getD_eq_getElem?_getD, hk]
  rw [e]
  refine ⟨?_, List.take_succ_eq_append_getElem hk⟩
  have hm : (fls i)[k] ∈ fls i := List.getElem_mem hk
  unfold fls at hm
  obtain ⟨h1, h2⟩ := List.mem_filter.1 hm
  obtain ⟨x, y, z, h, hx, hy, hz⟩ := row_form i
  have h1' : (fls i)[k] ∈ rowOf i := h1
  have h2' : (fls i)[k] ≠ 0 := of_decide_eq_true h2
  rw [h] at h1'
  have key : ∀ f : Nat, f ∈ [x, y, z] → f ≠ 0 → 1 ≤ f ∧ f ≤ 5 := by
    intro f hf hf0
    simp at hf
    omega
  exact key _ h1' h2'
theorem fold_fls {α : Type} (g : α → Nat → α) (h0 : ∀ a, g a 0 = a) : ∀ (l : List Nat) (a : α), (l.filter fun f => decide (f ≠ 0)).foldl g a = l.foldl g a
  | [], _ => rfl
  | f :: l, a => by
    by_cases h : f = 0
    · subst h; rw [List.filter_cons_of_neg (by decide), List.foldl_cons, h0]; exact fold_fls g h0 l a
    · rw [List.filter_cons_of_pos (by simpa using h), List.foldl_cons, List.foldl_cons]; exact fold_fls g h0 l _
theorem enc_fls (x : Cmd) (i : Nat) : encR x (fls i) = encR x (rowOf i) := fold_fls _ (fun a => by rw [show encF x 0 = ⟨#[]⟩ from rfl, Rm.app_nil]) _ _
theorem step_fls (p : PSt) (i : Nat) : (fls i).foldl stepF p = (rowOf i).foldl stepF p := fold_fls _ (fun a => rfl) _ _
set_option maxRecDepth 100000 in
set_option maxHeartbeats 4000000 in
theorem rput_any (x : Cmd) (w : World) (hs : x.n.size ≤ 140737488351232 ∧ x.o.size ≤ 140737488351232 ∧ x.d.size ≤ 140737488351232) : Calls Tryd.prog 10 #[x.v] w (Tells2 w (putL x) (putE x)) := by
  have cr := fun w => rright_any x w
  cases hr : rightB x with
  | false =>
    rw [hr] at cr
    have hz : Hid (putL x = ⟨#[]⟩ ∧ putE x = 200) := Lib.hid (by rw [putL, putE, hr]; exact ⟨rfl, rfl⟩)
    clear hr
    unfold Cmd.v at *
    go_enter Tryd.func10, Tryd.ntmps10
    go_wp2_with (fail)
    refine (cr _).mono ?_
    rintro e w1 ⟨rfl, hb⟩
    go_wp2_with (fail)
    go_ret2
    exact ⟨by rw [hz.out.1, hz.out.2]; rfl, below_d ((Below.refl _ _).alloc (Nat.le_refl _) _) hb⟩
  | true =>
    rw [hr] at cr
    have hz : Hid (putL x = encR x x.row ∧ putE x = 0) := Lib.hid (by rw [putL, putE, hr]; exact ⟨rfl, rfl⟩)
    obtain ⟨⟨l1, l9⟩, l2, l3, l4, l5, l6⟩ := (limB_iff x).1 (by unfold rightB at hr; rw [Bool.and_eq_true] at hr; exact hr.1)
    clear hr hs
    obtain ⟨i, hi⟩ := Int.eq_ofNat_of_zero_le (show 0 ≤ x.op by omega)
    have sz : ∀ r, (encR x r).size ≤ 7 + 607 * r.length := enc_size x (by omega) (by omega) (by omega)
    have hrow : Hid (x.row = rowOf i) := Lib.hid (by rw [Cmd.row, hi]; rfl)
    have hfin : Hid (encR x (fls i) = encR x x.row) := Lib.hid (by rw [hrow.out, enc_fls])
    have ct0 := fun w => rnum_says x.op 1 w
    have hh := fun w => has_any x.op w
    rw [show isOpB x.op = true from decide_eq_true ⟨l1, l9⟩] at hh
    rw [hi] at ct0 l1 l9 hh
    rw [Int.toNat_natCast] at hh
    have hls := let_size i
    have hll := fls_le i
    have hidx := let_idx i
    have hn := fls_nth i
    have he0 : Hid (numL (i : Int) 1 = encR x []) := Lib.hid (by rw [encR, hi]; rfl)
    unfold Cmd.v at *
    rw [hi]
    rw [hi] at cr
    have hbox := (Below.refl w.heap.size w).alloc (Nat.le_refl _) (.cells #[.int .i64 (i : Int), .string x.n, .string x.o, .int .i64 x.a, .int .i64 x.c, .string x.d] 23)
    have q1 : ∀ W, Below (w.heap.size + 1) (w.alloc (.cells #[.int .i64 (i : Int), .string x.n, .string x.o, .int .i64 x.a, .int .i64 x.c, .string x.d] 23)) W → W.cell? ⟨w.heap.size, 0, none⟩ = some (.int .i64 (i : Int)) ∧ W.cell? ⟨w.heap.size, 1, none⟩ = some (.string x.n) ∧ W.cell? ⟨w.heap.size, 2, none⟩ = some (.string x.o) ∧ W.cell? ⟨w.heap.size, 3, none⟩ = some (.int .i64 x.a) ∧ W.cell? ⟨w.heap.size, 4, none⟩ = some (.int .i64 x.c) ∧ W.cell? ⟨w.heap.size, 5, none⟩ = some (.string x.d) := by
      intro W hW
      refine ⟨?_, ?_, ?_, ?_, ?_, ?_⟩ <;> (rw [hW.cell (by show w.heap.size < _; omega)]; simp)
    clear hi
    go_enter Tryd.func10, Tryd.ntmps10
    go_wp2_with (fail)
    refine (cr _).mono ?_
    rintro e w1 ⟨rfl, hb⟩
    obtain ⟨wb, hwb⟩ : ∃ W, w.alloc (.cells #[.int .i64 (i : Int), .string x.n, .string x.o, .int .i64 x.a, .int .i64 x.c, .string x.d] 23) = W := ⟨_, rfl⟩
    have hsz : wb.heap.size = w.heap.size + 1 := by rw [← hwb]; simp
    rw [hwb] at hb hbox q1
    rw [hsz] at hb
    clear hwb cr
    obtain ⟨a0, a1, a2, a3, a4, a5⟩ := q1 w1 hb
    go_wp2_with (fail)
    refine (hh _).mono ?_
    rintro e w' ⟨rfl, rfl⟩
    go_wp2_with (fail)
    refine (ct0 _).mono ?_
    rintro e w2 ⟨rfl, hb2⟩
    have hB2 : Below (w.heap.size + 1) wb w2 := hb.trans (hb2.mono (by have := hb.size; omega))
    rw [he0.out]
    have hlsH := Lib.hid hls
    clear hls a0 a1 a2 a3 a4 a5
    generalize hLS : letS i = LS at *
    have hlz : LS.size = (fls i).length := hlsH.out
    clear hLS hlsH
    obtain ⟨Ln, hLn⟩ : ∃ n : Nat, n = (fls i).length := ⟨_, rfl⟩
    rw [← hLn] at hlz hll
    have hlz1 : LS.size ≤ Ln := by omega
    have hlz2 : Ln ≤ LS.size := by omega
    clear hlz
    go_wp2_with (fail)
    go_loopw [7, 8] (fun s t wr => ∃ k : Nat, k ≤ Ln ∧ t = .int .i64 (k : Int) ∧ s = .string (encR x ((fls i).take k)) ∧ Below (w.heap.size + 1) wb wr) (fun _ t _ => Ln - (intOf t).toNat)
    case atStart => exact ⟨0, by omega, rfl, rfl, hB2⟩
    case round =>
      obtain ⟨k, hk, rfl, rfl, hB⟩ := hrel
      obtain ⟨b0, b1, b2, b3, b4, b5⟩ := q1 _ hB
      have hBs := hB.size
      by_cases hk3 : k < Ln
      · have t3 : (k : Int) < (LS.size : Int) := by omega
        have hix := hidx k (by omega)
        have hf := (hn k (by omega)).1
        have HS := (hn k (by omega)).2
        have zz := sz ((fls i).take k)
        rw [List.length_take] at zz
        have HE : Hid (encR x ((fls i).take (k + 1)) = encR x ((fls i).take k) ++ encF x ((fls i).getD k 0)) := Lib.hid (by rw [HS, encR, List.foldl_append]; rfl)
        have zS : (encR x ((fls i).take k)).size ≤ 2000 := by omega
        have hk3' : k + 1 ≤ Ln := by omega
        clear HS hidx hn zz hk3 sz q1 hLn
        generalize (fls i).getD k 0 = f at *
        generalize encR x ((fls i).take k) = S at *
        rcases (by omega : f = 1 ∨ f = 2 ∨ f = 3 ∨ f = 4 ∨ f = 5) with rfl | rfl | rfl | rfl | rfl
        · rw [show encF x 1 = encT x.n 1 from rfl] at HE
          rw [show letC 1 = 110 from rfl] at hix
          have c9 := fun w => rnum_says (x.n.size : Int) 1 w
          have z9 : (numL (x.n.size : Int) 1).size ≤ 7 := numL_size _ 1 (by decide)
          rw [show encT x.n 1 = numL (x.n.size : Int) 1 ++ x.n from rfl] at HE
          have z8 : (S ++ numL (x.n.size : Int) 1).size ≤ 2007 := by rw [ByteArray.size_append]; omega
          generalize numL (x.n.size : Int) 1 = T at *
          rw [← Rm.app_assoc] at HE
          skip
          go_wp2_with (fail)
          have q9 : ∀ W, Below wr.heap.size wr W → W.cell? ⟨w.heap.size, 1, none⟩ = some (.string x.n) := fun W h => by rw [h.cell (p := ⟨w.heap.size, 1, none⟩) (by show w.heap.size < _; omega)]; exact b1
          refine wp_region_cls (Below wr.heap.size wr) (by kernel_rfl) (by kernel_rfl) (Below.refl _ _).drew ?_
          intro Z f hne hD hE
          have q8 := fun z => q9 _ (hD z)
          clear b0 b1 b2 b3 b4 b5 q9
          repeat (go_big_quiet_step ((go_at_call 24; exact toQB hD hE _ (c9 _))))
          refine wpQuiet_nil ?_
          intro _ hw'
          obtain ⟨zq, hw''⟩ := hw'
          subst hw''
          have hB3 := hB.trans ((hD zq).mono (by omega))
          clear q8
          go_wp2_with (fail)
          go_roundw
          case rel => exact ⟨k + 1, by omega, by go_num, by rw [HE.out], hB3⟩
          case measure => simp [intOf]; omega
        · rw [show encF x 2 = encT x.o 1 from rfl] at HE
          rw [show letC 2 = 111 from rfl] at hix
          have c9 := fun w => rnum_says (x.o.size : Int) 1 w
          have z9 : (numL (x.o.size : Int) 1).size ≤ 7 := numL_size _ 1 (by decide)
          rw [show encT x.o 1 = numL (x.o.size : Int) 1 ++ x.o from rfl] at HE
          have z8 : (S ++ numL (x.o.size : Int) 1).size ≤ 2007 := by rw [ByteArray.size_append]; omega
          generalize numL (x.o.size : Int) 1 = T at *
          rw [← Rm.app_assoc] at HE
          skip
          go_wp2_with (fail)
          have q9 : ∀ W, Below wr.heap.size wr W → W.cell? ⟨w.heap.size, 2, none⟩ = some (.string x.o) := fun W h => by rw [h.cell (p := ⟨w.heap.size, 2, none⟩) (by show w.heap.size < _; omega)]; exact b2
          refine wp_region_cls (Below wr.heap.size wr) (by kernel_rfl) (by kernel_rfl) (Below.refl _ _).drew ?_
          intro Z f hne hD hE
          have q8 := fun z => q9 _ (hD z)
          clear b0 b1 b2 b3 b4 b5 q9
          repeat (go_big_quiet_step ((go_at_call 24; exact toQB hD hE _ (c9 _))))
          refine wpQuiet_nil ?_
          intro _ hw'
          obtain ⟨zq, hw''⟩ := hw'
          subst hw''
          have hB3 := hB.trans ((hD zq).mono (by omega))
          clear q8
          go_wp2_with (fail)
          go_roundw
          case rel => exact ⟨k + 1, by omega, by go_num, by rw [HE.out], hB3⟩
          case measure => simp [intOf]; omega
        · rw [show encF x 3 = numL x.a 6 from rfl] at HE
          rw [show letC 3 = 97 from rfl] at hix
          have c9 := fun w => rnum_says x.a 6 w
          have z9 : (numL x.a 6).size ≤ 7 := numL_size _ 6 (by decide)
          generalize numL x.a 6 = T at *
          go_wp2_with (fail)
          refine (c9 _).mono ?_
          rintro e w3 ⟨rfl, hb3⟩
          have hB3 := hB.trans (hb3.mono (by omega))
          go_wp2_with (fail)
          go_roundw
          case rel => exact ⟨k + 1, by omega, by go_num, by rw [HE.out], hB3⟩
          case measure => simp [intOf]; omega
        · rw [show encF x 4 = numL x.c 6 from rfl] at HE
          rw [show letC 4 = 99 from rfl] at hix
          have c9 := fun w => rnum_says x.c 6 w
          have z9 : (numL x.c 6).size ≤ 7 := numL_size _ 6 (by decide)
          generalize numL x.c 6 = T at *
          go_wp2_with (fail)
          refine (c9 _).mono ?_
          rintro e w3 ⟨rfl, hb3⟩
          have hB3 := hB.trans (hb3.mono (by omega))
          go_wp2_with (fail)
          go_roundw
          case rel => exact ⟨k + 1, by omega, by go_num, by rw [HE.out], hB3⟩
          case measure => simp [intOf]; omega
        · rw [show encF x 5 = encT x.d 2 from rfl] at HE
          rw [show letC 5 = 100 from rfl] at hix
          have c9 := fun w => rnum_says (x.d.size : Int) 2 w
          have z9 : (numL (x.d.size : Int) 2).size ≤ 7 := numL_size _ 2 (by decide)
          rw [show encT x.d 2 = numL (x.d.size : Int) 2 ++ x.d from rfl] at HE
          have z8 : (S ++ numL (x.d.size : Int) 2).size ≤ 2007 := by rw [ByteArray.size_append]; omega
          generalize numL (x.d.size : Int) 2 = T at *
          rw [← Rm.app_assoc] at HE
          skip
          go_wp2_with (fail)
          have q9 : ∀ W, Below wr.heap.size wr W → W.cell? ⟨w.heap.size, 5, none⟩ = some (.string x.d) := fun W h => by rw [h.cell (p := ⟨w.heap.size, 5, none⟩) (by show w.heap.size < _; omega)]; exact b5
          refine wp_region_cls (Below wr.heap.size wr) (by kernel_rfl) (by kernel_rfl) (Below.refl _ _).drew ?_
          intro Z f hne hD hE
          have q8 := fun z => q9 _ (hD z)
          clear b0 b1 b2 b3 b4 b5 q9
          repeat (go_big_quiet_step ((go_at_call 24; exact toQB hD hE _ (c9 _))))
          refine wpQuiet_nil ?_
          intro _ hw'
          obtain ⟨zq, hw''⟩ := hw'
          subst hw''
          have hB3 := hB.trans ((hD zq).mono (by omega))
          clear q8
          go_wp2_with (fail)
          go_roundw
          case rel => exact ⟨k + 1, by omega, by go_num, by rw [HE.out], hB3⟩
          case measure => simp [intOf]; omega
      · have t3 : decide (k < LS.size) = false := by rw [decide_eq_false_iff_not]; omega
        have hl : (fls i).take k = fls i := List.take_of_length_le (by omega)
        rw [hl, hfin.out]
        clear hl hidx hn
        go_wp2_with (fail)
        go_ret2
        exact ⟨by rw [hz.out.1, hz.out.2]; rfl, hbox.trans (hB.mono (by omega))⟩
end Go.Proofs.YtjbekphjhmlloaaDoor
