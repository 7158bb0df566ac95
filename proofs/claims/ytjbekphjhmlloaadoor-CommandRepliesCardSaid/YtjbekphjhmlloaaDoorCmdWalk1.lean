/- command: small calls, and what is right. -/
import Derived.Test.YtjbekphjhmlloaaDoorCmdMath
namespace Go.Proofs.YtjbekphjhmlloaaDoor
open Go.RowKit
set_option linter.unusedVariables false
set_option linter.unusedSimpArgs false

def SaysS (w : World) (s : ByteArray) (e : Ending) (w' : World) : Prop := e = .returned (.string s) ∧ Below w.heap.size w w'
theorem below_d {w0 w w' : World} (h : Below w0.heap.size w0 w) (hb : Below w.heap.size w w') : Below w0.heap.size w0 w' := h.trans (hb.mono h.size)
theorem numL_size (n : Int) (W : Nat) (h : W ≤ 7) : (numL n (W : Int)).size ≤ 7 := by
  rw [numL]; split
  · rw [lineOf_size, Pk.be_length, Int.toNat_natCast]; exact h
  · exact Nat.zero_le _
theorem encT_size (s : ByteArray) (W : Nat) (h : W ≤ 7) : (encT s W).size ≤ 7 + s.size := by
  have := numL_size (s.size : Int) W h
  rw [encT, ByteArray.size_append]; omega
theorem number_any (n width : Int) (w : World) : Calls Tryd.prog 21 #[.int .i64 n, .int .i64 width] w (SaysS w (numL n width)) := by
  have hn := fun W => num_any n width W
  generalize numL n width = s at *
  generalize numE n width = m at *
  go_enter Tryd.func21, Tryd.ntmps21
  go_wp2_with (fail)
  refine (hn _).mono ?_
  rintro e w1 ⟨rfl, hb⟩
  go_wp2_with (fail)
  go_ret
  exact ⟨rfl, hb⟩
theorem rnum_says (n width : Int) (w : World) : Calls Tryd.prog 24 #[.int .i64 n, .int .i64 width] w (SaysS w (numL n width)) := by
  have hn := fun W => rnum_any n width W
  generalize numL n width = s at *
  generalize numE n width = m at *
  go_enter Tryd.func24, Tryd.ntmps24
  go_wp2_with (fail)
  refine (hn _).mono ?_
  rintro e w1 ⟨rfl, hb⟩
  go_wp2_with (fail)
  go_ret
  exact ⟨rfl, hb⟩
theorem text_any (s : ByteArray) (W : Nat) (w : World) (hW : W ≤ 7) (hs : s.size ≤ 140737488355328) : Calls Tryd.prog 22 #[.string s, .int .i64 (W : Int)] w (SaysS w (encT s W)) := by
  have hn := fun w => number_any (s.size : Int) (W : Int) w
  have hz := numL_size (s.size : Int) W hW
  have he : Hid (encT s W = numL (s.size : Int) (W : Int) ++ s) := Lib.hid rfl
  generalize numL (s.size : Int) (W : Int) = t at *
  go_enter Tryd.func22, Tryd.ntmps22
  go_wp2_with (fail)
  refine (hn _).mono ?_
  rintro e w1 ⟨rfl, hb⟩
  go_wp2_with (fail)
  go_ret
  exact ⟨by rw [he.out]; rfl, hb⟩
theorem eql_cmd (w : World) (x y : Cmd) :
    (Op.equalIn 10000 23 x.v y.v).run Tryd.prog w = .ok (x.op == y.op && (x.n.toList == y.n.toList && (x.o.toList == y.o.toList && (x.a == y.a && (x.c == y.c && x.d.toList == y.d.toList))))) w := by
  obtain ⟨op, n, o, a, c, d⟩ := x
  obtain ⟨op', n', o', a', c', d'⟩ := y
  have hS : Tryd.prog.underlying 23 = some (.struct (Tryd.prog.fieldsOf 23)) := by kernel_rfl
  have hp : Tryd.prog.stoodInHeld 23 = false := by kernel_rfl
  rw [show (10000 : Nat) = 9999 + 1 from rfl, Cmd.v, Cmd.v, run_equalIn_agg w 9999 23 _ _ hS hp]
  simp only [Program.fieldsOf, Tryd.underlying23]
  go_simp
  by_cases h1 : op = op' <;> by_cases h2 : n.toList = n'.toList <;> by_cases h3 : o.toList = o'.toList <;> by_cases h4 : a = a' <;> by_cases h5 : c = c' <;> by_cases h6 : d.toList = d'.toList <;> simp [h1, h2, h3, h4, h5, h6]
theorem eql_cmd_guard : Tryd.prog.eqGuardType Tryd.prog.depth 23 = false := by kernel_rfl
theorem toL_eq (s t : ByteArray) : (s.toList == t.toList) = decide (s = t) := by
  rw [Lib.toList_data, Lib.toList_data, Bool.eq_iff_iff, beq_iff_eq, decide_eq_true_eq]
  exact ⟨fun h => Go.WideShapes.bytes_inj h, fun h => by rw [h]⟩
def Cmd.used (x : Cmd) : Cmd := ⟨x.op, kS x.row 1 x.n, kS x.row 2 x.o, kI x.row 3 x.a, kI x.row 4 x.c, kS x.row 5 x.d⟩
theorem okS_eq (r : List Nat) (f : Nat) (s : ByteArray) : (s.toList == (kS r f s).toList) = okS r f s := by
  rw [toL_eq, kS, okS]
  by_cases h : f ∈ r
  · simp [h]
  · simp only [h, if_false, decide_false, Bool.false_or]
    rw [decide_eq_decide]
    exact ⟨fun e => by rw [e]; rfl, fun e => Rm.size0 e⟩
theorem okI_eq (r : List Nat) (f : Nat) (n : Int) : (n == kI r f n) = okI r f n := by
  rw [kI, okI]
  by_cases h : f ∈ r
  · simp [h]
  · rw [Bool.eq_iff_iff]; simp [h]
theorem used_eq (x : Cmd) : (x.op == x.used.op && (x.n.toList == x.used.n.toList && (x.o.toList == x.used.o.toList && (x.a == x.used.a && (x.c == x.used.c && x.d.toList == x.used.d.toList))))) = useB x := by
  simp only [Cmd.used, okS_eq, okI_eq, beq_self_eq_true, Bool.true_and]; rfl
theorem used_cmd (x : Cmd) (h : isOpB x.op = true) (w : World) (hF : Flds w) : Calls Tryd.prog 35 #[x.v] w fun e w' => e = .returned x.used.v ∧ Below w.heap.size w w' := by
  obtain ⟨op, n, o, a, c, d⟩ := x
  have h' : 1 ≤ op ∧ op ≤ 9 := of_decide_eq_true h
  obtain ⟨i, rfl⟩ := Int.eq_ofNat_of_zero_le (show 0 ≤ op by omega)
  have := used_any i (by omega) (by omega) n o a c d w hF
  exact this
theorem box6 {w wb : World} {T : TypeId} {a b c d e g : Value} (h : w.alloc (.cells #[a, b, c, d, e, g] T) = wb) {Z : Type} {f : Z → World} (hD : ∀ z, Below wb.heap.size wb (f z)) :
    (∀ z, (f z).cell? ⟨w.heap.size, 0, none⟩ = some a) ∧ (∀ z, (f z).cell? ⟨w.heap.size, 1, none⟩ = some b) ∧ (∀ z, (f z).cell? ⟨w.heap.size, 2, none⟩ = some c) ∧ (∀ z, (f z).cell? ⟨w.heap.size, 3, none⟩ = some d) ∧ (∀ z, (f z).cell? ⟨w.heap.size, 4, none⟩ = some e) ∧ (∀ z, (f z).cell? ⟨w.heap.size, 5, none⟩ = some g) := by
  subst h
  have hz := clsCell hD
  refine ⟨?_, ?_, ?_, ?_, ?_, ?_⟩ <;> (intro z; rw [hz z _ _ (by simp)]; simp)
set_option maxRecDepth 100000 in
set_option maxHeartbeats 4000000 in
theorem cright_any (x : Cmd) (w : World) (hF : Flds w) : Calls Tryd.prog 15 #[x.v] w fun e w' => e = .returned (.bool (rightB x)) ∧ Below w.heap.size w w' := by
  cases f0 : isOpB x.op with
  | false =>
    have hz : Hid (rightB x = false) := Lib.hid (by simp [rightB, limB, f0])
    unfold Cmd.v
    go_enter Tryd.func15, Tryd.ntmps15
    go_wp2_with (first | (go_at_call 27; refine (isop_any _ _).mono ?_; rintro e w' ⟨rfl, rfl⟩) | (go_at_call 34; refine (iscount_any _ _).mono ?_; rintro e w' ⟨rfl, rfl⟩))
    go_ret
    exact ⟨by rw [hz.out]; rfl, (Below.refl _ _).alloc (Nat.le_refl _) _⟩
  | true =>
    by_cases f1 : x.n.size ≤ 20
    rotate_left
    · have t1 : decide ((20 : Int) < (x.n.size : Int)) = true := by rw [decide_eq_true_eq]; omega
      have hz : Hid (rightB x = false) := Lib.hid (by simp [rightB, limB, f0, f1])
      clear f1
      unfold Cmd.v
      go_enter Tryd.func15, Tryd.ntmps15
      go_wp2_with (first | (go_at_call 27; refine (isop_any _ _).mono ?_; rintro e w' ⟨rfl, rfl⟩) | (go_at_call 34; refine (iscount_any _ _).mono ?_; rintro e w' ⟨rfl, rfl⟩))
      go_ret
      exact ⟨by rw [hz.out]; rfl, (Below.refl _ _).alloc (Nat.le_refl _) _⟩
    have t1 : decide ((20 : Int) < (x.n.size : Int)) = false := by rw [decide_eq_false_iff_not]; omega
    by_cases f2 : x.o.size ≤ 20
    rotate_left
    · have t2 : decide ((20 : Int) < (x.o.size : Int)) = true := by rw [decide_eq_true_eq]; omega
      have hz : Hid (rightB x = false) := Lib.hid (by simp [rightB, limB, f0, f1, f2])
      clear f1
      clear f2
      unfold Cmd.v
      go_enter Tryd.func15, Tryd.ntmps15
      go_wp2_with (first | (go_at_call 27; refine (isop_any _ _).mono ?_; rintro e w' ⟨rfl, rfl⟩) | (go_at_call 34; refine (iscount_any _ _).mono ?_; rintro e w' ⟨rfl, rfl⟩))
      go_ret
      exact ⟨by rw [hz.out]; rfl, (Below.refl _ _).alloc (Nat.le_refl _) _⟩
    have t2 : decide ((20 : Int) < (x.o.size : Int)) = false := by rw [decide_eq_false_iff_not]; omega
    cases f3 : isCntB x.a with
    | false =>
      have hz : Hid (rightB x = false) := Lib.hid (by simp [rightB, limB, f0, f1, f2, f3])
      clear f1
      clear f2
      unfold Cmd.v
      go_enter Tryd.func15, Tryd.ntmps15
      go_wp2_with (first | (go_at_call 27; refine (isop_any _ _).mono ?_; rintro e w' ⟨rfl, rfl⟩) | (go_at_call 34; refine (iscount_any _ _).mono ?_; rintro e w' ⟨rfl, rfl⟩))
      go_ret
      exact ⟨by rw [hz.out]; rfl, (Below.refl _ _).alloc (Nat.le_refl _) _⟩
    | true =>
      cases f4 : isCntB x.c with
      | false =>
        have hz : Hid (rightB x = false) := Lib.hid (by simp [rightB, limB, f0, f1, f2, f3, f4])
        clear f1
        clear f2
        unfold Cmd.v
        go_enter Tryd.func15, Tryd.ntmps15
        go_wp2_with (first | (go_at_call 27; refine (isop_any _ _).mono ?_; rintro e w' ⟨rfl, rfl⟩) | (go_at_call 34; refine (iscount_any _ _).mono ?_; rintro e w' ⟨rfl, rfl⟩))
        go_ret
        exact ⟨by rw [hz.out]; rfl, (Below.refl _ _).alloc (Nat.le_refl _) _⟩
      | true =>
        by_cases f5 : x.d.size ≤ 600
        rotate_left
        · have t5 : decide ((600 : Int) < (x.d.size : Int)) = true := by rw [decide_eq_true_eq]; omega
          have hz : Hid (rightB x = false) := Lib.hid (by simp [rightB, limB, f0, f1, f2, f3, f4, f5])
          clear f1
          clear f2
          clear f5
          unfold Cmd.v
          go_enter Tryd.func15, Tryd.ntmps15
          go_wp2_with (first | (go_at_call 27; refine (isop_any _ _).mono ?_; rintro e w' ⟨rfl, rfl⟩) | (go_at_call 34; refine (iscount_any _ _).mono ?_; rintro e w' ⟨rfl, rfl⟩))
          go_ret
          exact ⟨by rw [hz.out]; rfl, (Below.refl _ _).alloc (Nat.le_refl _) _⟩
        have t5 : decide ((600 : Int) < (x.d.size : Int)) = false := by rw [decide_eq_false_iff_not]; omega
        have hz : Hid (rightB x = useB x) := Lib.hid (by simp [rightB, limB, f0, f1, f2, f3, f4, f5])
        have hq := fun w => eql_cmd w x x.used
        rw [used_eq] at hq
        have hg := eql_cmd_guard
        have hu := fun w h => used_cmd x f0 w h
        clear f1
        clear f2
        clear f5
        generalize x.used = y at *
        have hv : Hid (x.v = .agg #[.int .i64 x.op, .string x.n, .string x.o, .int .i64 x.a, .int .i64 x.c, .string x.d]) := Lib.hid rfl
        unfold Cmd.v
        unfold Cmd.v at hq hu
        go_enter Tryd.func15, Tryd.ntmps15
        go_wp2_with (first | (go_at_call 27; refine (isop_any _ _).mono ?_; rintro e w' ⟨rfl, rfl⟩) | (go_at_call 34; refine (iscount_any _ _).mono ?_; rintro e w' ⟨rfl, rfl⟩))
        have hbb : Below w.heap.size w (w.alloc (.cells #[.int .i64 x.op, .string x.n, .string x.o, .int .i64 x.a, .int .i64 x.c, .string x.d] 23)) := (Below.refl _ _).alloc (Nat.le_refl _) _
        generalize hwb : w.alloc (.cells #[.int .i64 x.op, .string x.n, .string x.o, .int .i64 x.a, .int .i64 x.c, .string x.d] 23) = wb at *
        have hFb : Flds wb := hF.below hbb
        refine wp_region_cls (Below wb.heap.size wb) (by kernel_rfl) (by kernel_rfl) (Below.refl _ _).drew ?_
        intro Z f hne hD hE
        obtain ⟨b0, b1, b2, b3, b4, b5⟩ := box6 hwb hD
        clear hwb
        repeat (go_big_quiet_step ((go_at_call 35; exact toQB hD hE _ (hu _ (hFb.below (hD _))))))
        refine wpQuiet_nil ?_
        intro _ hw'
        obtain ⟨zq, hw''⟩ := hw'
        subst hw''
        have hz' := hD zq
        go_wp2
        go_ret
        exact ⟨by rw [hz.out]; rfl, hbb.trans (hz'.mono hbb.size)⟩
end Go.Proofs.YtjbekphjhmlloaaDoor
